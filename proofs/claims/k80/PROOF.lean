import PyProof.Rows.All
import Wide.All
import OpenK.AllK
import Wide.One
import Wide.Seal
import PySem.Challenge.RW_deedloom_k80_tables_made_fewer
set_option genSizeOf false
set_option compiler.extract_closed false
set_option Elab.async false
set_option linter.all false
set_option maxRecDepth 100000
local macro_rules|`($d:definition)=>`(noncomputable $d:definition)
local macro_rules|`(tactic|omega)=>`(tactic|first|assumption|lia|omega +splitNatSub)
noncomputable section
set_option linter.all false
namespace Zq
open PySem
def zq0:=@wpAny_bind
def zq1:=@if_neg
def zq2:=@if_pos
def zq3:=@wpAny_pure
def zq4:=@List.length_map
def zq5:=@List.getElem?_eq_getElem
def zq6:=@Nat.le_refl
def zq7:=@List.getElem?_eq_some_iff
def zq8:=@List.length_append
def zq9:=@List.mem_singleton
def b7:=@List.mem_cons_of_mem
def zq11:=@List.mem_cons
def b9:=@sizeLine_eq
def bg:=@List.mem_of_getElem?
def bh:=@decide_eq_false
def bq:=@List.getElem?_map
def bz:=@Bool.false_ne_true
def bC:=@decide_eq_true
def bH:=@Heap.lt_size
def bO:=@Heap.get?_push_of_some
def zq20:=@List.mem_append
def bT:=@Nat.zero_le
def bV:=@List.length_singleton
def cf:=@Nat.ne_of_lt
def cm:=@List.map_cons
def cn:=@List.getD_eq_getElem?_getD
def cq:=@List.map_append
def cF:=@Heap.get?_push_size
def cN:=@List.mem_cons_self
def cW:=@List.mem_append_right
def cX:=@List.length_range
def d5:=@List.length_cons
def df:=@List.take_succ_eq_append_getElem
def zq33:=@List.mem_range
def dH:=@List.getElem_mem
def dX:=@Nat.le_trans
def dY:=@List.length_take
def dZ:=@List.size_toArray
def ee:=@Bool.and_eq_true
def ef:=@List.take_length
def eh:=@Bool.eq_iff_iff
def eo:=@decide_eq_true_iff
def zq42:=@List.nodup_cons
def zq43:=@List.mem_map
def eG:=@List.map_map
def fh:=@Nat.lt_of_lt_of_le
def fk:=@List.mem_append_left
def zq47:=@Option.map_eq_some_iff
def zq48:=@List.all_eq_true
def g9:=@List.append_nil
def gc:=@Int.emod_nonneg
def gf:=@List.getElem?_eq_none
def gG:=@List.getElem?_append_right
def gH:=@List.getElem?_append_left
def ij:=@wpAny_mono
def zq55:=@List.mem_iff_getElem?
def iI:=@Heap.size_push
def zq57:=@beq_iff_eq
def ja:=@Array.length_toList
def kD:=@wpAny_holding
def kE:=@Int.toNat_natCast
def kF:=@Int.emod_lt_of_pos
def zq62:=@List.length_pos_iff
def kG:=@Classical.byContradiction
def kR:=@List.append_assoc
def zq65:=@List.nodup_append
def zq66:=@List.length_eq_zero_iff
def zq67:=@List.mem_filter
def nv:=@List.length_dropLast
def ny:=@Bool.or_eq_true
def nz:=@List.ext_getElem?
def nA:=@Nat.sub_self
def qD:=@Nat.lt_irrefl
def qE:=@List.any_cons
def qF:=@Array.getElem?_toList
def qG:=@List.lookup_cons
def qH:=@List.take_of_length_le
def qI:=@Nat.le_add_right
def qJ:=@List.foldl_append
def sH:=@Nat.ne_of_gt
def sI:=@Heap.get?_update_self
def sJ:=@List.length_set
def sL:=@codeAny_builtin
def sM:=@Nat.min_eq_left
def sN:=@Array.getElem?_eq_getElem
def sO:=@List.sum_cons
def x8:=@Nat.lt_succ_self
def x9:=@Nat.le_succ
def xb:=@List.countP_cons
def xc:=@List.range_succ
def xf:=@Int.eq_ofNat_of_zero_le
def zq91:=@Array.getElem?_eq_some_iff
def xg:=@List.getElem_idxOf
def xh:=@List.getElem?_range
def xi:=@List.concat_eq_append
def AX:=@List.getElem?_replicate
def AY:=@List.length_drop
def AZ:=@List.all_cons
def B0:=@List.map_nil
def B1:=@Nat.lt_of_le_of_lt
def qm:=@List.length_filter_le
def qo:=@Nat.sub_zero
def qr:=@List.not_mem_nil
def zq103:=@List.mem_flatMap
def qt:=@List.sublist_append_left
def qu:=@List.nil_append
def qw:=@wpAny_ite_split
def qz:=@List.idxOf_lt_length_of_mem
def qA:=@List.idxOf_append
def qB:=@List.idxOf_cons_self
def qC:=@List.map_congr_left
def va:=@Nat.le_of_lt
def vb:=@List.filterMap_cons
def vd:=@List.length_replicate
def vf:=@List.nodup_nil
def vg:=@Nat.add_le_add_left
def zq116:=@List.any_eq_true
def vh:=@List.filter_append
def vi:=@Int.one_mul
def vj:=@List.cons_append
def zq120:=@List.pairwise_lt_range
def vk:=@List.foldl_cons
def vm:=@List.filter_nil
def vn:=@List.prefix_refl
def vo:=@Option.map_some
def zq125:=@List.pairwise_map
def vp:=@List.mem_of_mem_take
def zq127:=@List.mem_flatten
def vq:=@List.length_zip
def Aq:=@List.getElem?_set_ne
def Ar:=@List.of_mem_zip
def As:=@Heap.get?_update_other
def Au:=@Bool.false_or
def Av:=@Option.isSome_map
def Aw:=@List.forIn_cons
def Ax:=@List.getElem?_cons_succ
def Ay:=@List.drop_zero
def Az:=@Nat.min_eq_right
def AA:=@List.pairwise_cons
def AB:=@List.exists_mem_of_ne_nil
def AC:=@List.dropLast_concat_getLast
def AD:=@List.getElem?_take
def AE:=@List.getElem?_inj
def AF:=@List.sum_append
def AG:=@Array.size_range
def AH:=@Array.size_push
def AI:=@Nat.lt_succ_of_lt
def AJ:=@List.perm_append_comm
def AK:=@Nat.zero_add
def AL:=@List.drop_length
def AM:=@List.countP_map
def AN:=@Bool.true_and
def AO:=@List.any_map
def AQ:=@Nat.pow_le_pow_right
def AR:=@List.getLastD_eq_getLast?
def AS:=@List.length_mapIdx
def AT:=@List.flatten_cons
def AU:=@Nat.add_sub_cancel
def AV:=@Int.le_of_lt
def AW:=@List.map_take
def E5:=@List.getElem?_set_self
def E6:=@List.getElem?_toArray
def E7:=@List.getElem?_reverse
def E8:=@List.drop_of_length_le
def E9:=@List.mem_or_eq_of_mem_set
def Ea:=@List.length_erase_of_mem
def Eb:=@List.length_pos_of_mem
def Ec:=@List.countP_mono_left
def Ee:=@List.take_append_drop
def Ef:=@List.getElem?_zip_eq_some
def Eg:=@List.eq_nil_or_concat
def Eh:=@List.getLast?_eq_getElem?
def Ei:=@List.getElem?_dropLast
def Ej:=@List.take_append_of_le_length
section
variable{Q R S T U V W X Y Z:Type}
theorem zn{A B:Q->Prop}(a):A a->B a->∃a,A a/\B a:=(⟨a,·,·⟩)
theorem zAA{A B C:Q->R->Prop}(a b):A a b->B a b->C a b->∃a b,A a b/\B a b/\C a b:=(⟨a,b,·,·,·⟩)
theorem zAB{A B C:Prop}:A->B->C->A/\B/\C:=(⟨·,·,·⟩)
theorem zAC{A B C:Q->Prop}(a):A a->B a->C a->∃a,A a/\B a/\C a:=(⟨a,·,·,·⟩)
theorem zAD{A B C D:Q->R->Prop}(a b):A a b->B a b->C a b->D a b->∃a b,A a b/\B a b/\C a b/\D a b:=(⟨a,b,·,·,·,·⟩)
theorem zAE{A B:Q->R->Prop}(a b):A a b->B a b->∃a b,A a b/\B a b:=(⟨a,b,·,·⟩)
theorem zAF{A B C D:Prop}:A->B->C->D->A/\B/\C/\D:=(⟨·,·,·,·⟩)
theorem zAG{A B C D:Q->Prop}(a):A a->B a->C a->D a->∃a,A a/\B a/\C a/\D a:=(⟨a,·,·,·,·⟩)
theorem zAH{A:Q->R->Prop}(a b):A a b->∃a b,A a b:=(⟨a,b,·⟩)
theorem zAI{A B C D E:Q->R->S->Prop}(a b c):A a b c->B a b c->C a b c->D a b c->E a b c->∃a b c,A a b c/\B a b c/\C a b c/\D a b c/\E a b c:=(⟨a,b,c,·,·,·,·,·⟩)
theorem zAJ{A B C D E:Prop}:A->B->C->D->E->A/\B/\C/\D/\E:=(⟨·,·,·,·,·⟩)
theorem zAK{A B:Q->R->S->Prop}(a b c):A a b c->B a b c->∃a b c,A a b c/\B a b c:=(⟨a,b,c,·,·⟩)
theorem zAL{A:Q->R->S->Prop}(a b c):A a b c->∃a b c,A a b c:=(⟨a,b,c,·⟩)
theorem zAM{A B C D E:Q->R->S->T->Prop}(a b c d):A a b c d->B a b c d->C a b c d->D a b c d->E a b c d->∃a b c d,A a b c d/\B a b c d/\C a b c d/\D a b c d/\E a b c d:=(⟨a,b,c,d,·,·,·,·,·⟩)
theorem zAN{A B C:Q->R->S->Prop}(a b c):A a b c->B a b c->C a b c->∃a b c,A a b c/\B a b c/\C a b c:=(⟨a,b,c,·,·,·⟩)
theorem zAO{A B C D:Q->R->S->Prop}(a b c):A a b c->B a b c->C a b c->D a b c->∃a b c,A a b c/\B a b c/\C a b c/\D a b c:=(⟨a,b,c,·,·,·,·⟩)
theorem zAP{A B C D E:Q->R->Prop}(a b):A a b->B a b->C a b->D a b->E a b->∃a b,A a b/\B a b/\C a b/\D a b/\E a b:=(⟨a,b,·,·,·,·,·⟩)
theorem zAQ{A B C D:Q->R->S->T->Prop}(a b c d):A a b c d->B a b c d->C a b c d->D a b c d->∃a b c d,A a b c d/\B a b c d/\C a b c d/\D a b c d:=(⟨a,b,c,d,·,·,·,·⟩)
theorem zAR{A:Q->R->S->T->U->V->W->X->Prop}(a b c d e f g i):A a b c d e f g i->∃a b c d e f g i,A a b c d e f g i:=(⟨a,b,c,d,e,f,g,i,·⟩)
theorem zAS{A:Q->R->S->T->U->V->Prop}(a b c d e f):A a b c d e f->∃a b c d e f,A a b c d e f:=(⟨a,b,c,d,e,f,·⟩)
theorem zAT{A B C D E F:Q->R->S->T->U->Prop}(a b c d e):A a b c d e->B a b c d e->C a b c d e->D a b c d e->E a b c d e->F a b c d e->∃a b c d e,A a b c d e/\B a b c d e/\C a b c d e/\D a b c d e/\E a b c d e/\F a b c d e:=(⟨a,b,c,d,e,·,·,·,·,·,·⟩)
theorem zAU{A B:Q->R->S->T->Prop}(a b c d):A a b c d->B a b c d->∃a b c d,A a b c d/\B a b c d:=(⟨a,b,c,d,·,·⟩)
theorem zAV{A B C D E F:Prop}:A->B->C->D->E->F->A/\B/\C/\D/\E/\F:=(⟨·,·,·,·,·,·⟩)
theorem zAW{A B C D E:Q->Prop}(a):A a->B a->C a->D a->E a->∃a,A a/\B a/\C a/\D a/\E a:=(⟨a,·,·,·,·,·⟩)
theorem zAX{A:Q->R->S->T->U->Prop}(a b c d e):A a b c d e->∃a b c d e,A a b c d e:=(⟨a,b,c,d,e,·⟩)
theorem zAY{A B C D E F H:Q->R->S->T->Prop}(a b c d):A a b c d->B a b c d->C a b c d->D a b c d->E a b c d->F a b c d->H a b c d->∃a b c d,A a b c d/\B a b c d/\C a b c d/\D a b c d/\E a b c d/\F a b c d/\H a b c d:=(⟨a,b,c,d,·,·,·,·,·,·,·⟩)
theorem zAZ{A B C D E F:Q->R->Prop}(a b):A a b->B a b->C a b->D a b->E a b->F a b->∃a b,A a b/\B a b/\C a b/\D a b/\E a b/\F a b:=(⟨a,b,·,·,·,·,·,·⟩)
theorem zBA{A B C D E F:Q->R->S->Prop}(a b c):A a b c->B a b c->C a b c->D a b c->E a b c->F a b c->∃a b c,A a b c/\B a b c/\C a b c/\D a b c/\E a b c/\F a b c:=(⟨a,b,c,·,·,·,·,·,·⟩)
theorem zBB{A B C D E F:Q->R->S->T->Prop}(a b c d):A a b c d->B a b c d->C a b c d->D a b c d->E a b c d->F a b c d->∃a b c d,A a b c d/\B a b c d/\C a b c d/\D a b c d/\E a b c d/\F a b c d:=(⟨a,b,c,d,·,·,·,·,·,·⟩)
theorem zBC{A B C D E F H I J:Prop}:A->B->C->D->E->F->H->I->J->A/\B/\C/\D/\E/\F/\H/\I/\J:=(⟨·,·,·,·,·,·,·,·,·⟩)
theorem zBD{A:Q->R->S->T->Prop}(a b c d):A a b c d->∃a b c d,A a b c d:=(⟨a,b,c,d,·⟩)
theorem zBE{A B C D E F H:Q->R->S->T->U->V->W->Prop}(a b c d e f g):A a b c d e f g->B a b c d e f g->C a b c d e f g->D a b c d e f g->E a b c d e f g->F a b c d e f g->H a b c d e f g->∃a b c d e f g,A a b c d e f g/\B a b c d e f g/\C a b c d e f g/\D a b c d e f g/\E a b c d e f g/\F a b c d e f g/\H a b c d e f g:=(⟨a,b,c,d,e,f,g,·,·,·,·,·,·,·⟩)
theorem zBF{A B C D E F H:Prop}:A->B->C->D->E->F->H->A/\B/\C/\D/\E/\F/\H:=(⟨·,·,·,·,·,·,·⟩)
theorem zBG{A:Q->R->S->T->U->V->W->X->Y->Prop}(a b c d e f g i j):A a b c d e f g i j->∃a b c d e f g i j,A a b c d e f g i j:=(⟨a,b,c,d,e,f,g,i,j,·⟩)
theorem zBH{A B C D E F H I:Q->R->S->T->U->Prop}(a b c d e):A a b c d e->B a b c d e->C a b c d e->D a b c d e->E a b c d e->F a b c d e->H a b c d e->I a b c d e->∃a b c d e,A a b c d e/\B a b c d e/\C a b c d e/\D a b c d e/\E a b c d e/\F a b c d e/\H a b c d e/\I a b c d e:=(⟨a,b,c,d,e,·,·,·,·,·,·,·,·⟩)
theorem zBI{A B C D E F:Q->Prop}(a):A a->B a->C a->D a->E a->F a->∃a,A a/\B a/\C a/\D a/\E a/\F a:=(⟨a,·,·,·,·,·,·⟩)
theorem zBJ{A B C D E F H I J K:Q->R->S->T->U->V->W->Prop}(a b c d e f g):A a b c d e f g->B a b c d e f g->C a b c d e f g->D a b c d e f g->E a b c d e f g->F a b c d e f g->H a b c d e f g->I a b c d e f g->J a b c d e f g->K a b c d e f g->∃a b c d e f g,A a b c d e f g/\B a b c d e f g/\C a b c d e f g/\D a b c d e f g/\E a b c d e f g/\F a b c d e f g/\H a b c d e f g/\I a b c d e f g/\J a b c d e f g/\K a b c d e f g:=(⟨a,b,c,d,e,f,g,·,·,·,·,·,·,·,·,·,·⟩)
theorem zBK{A B C D E F H I J K L M:Prop}:A->B->C->D->E->F->H->I->J->K->L->M->A/\B/\C/\D/\E/\F/\H/\I/\J/\K/\L/\M:=(⟨·,·,·,·,·,·,·,·,·,·,·,·⟩)
theorem zBL{A B C D E F H I J K:Prop}:A->B->C->D->E->F->H->I->J->K->A/\B/\C/\D/\E/\F/\H/\I/\J/\K:=(⟨·,·,·,·,·,·,·,·,·,·⟩)
theorem zBM{A:Q->R->S->T->U->V->W->Prop}(a b c d e f g):A a b c d e f g->∃a b c d e f g,A a b c d e f g:=(⟨a,b,c,d,e,f,g,·⟩)
end
section
variable{Q R S T:Type}{g:Prop}
theorem eQ02{A B C:Prop}(k:A->B->C->g)(h:A/\B/\C):g:=let ⟨hA,hB,hC⟩:=h;k hA hB hC
theorem eQ03{A B C D:Prop}(k:A->B->C->D->g)(h:A/\B/\C/\D):g:=let ⟨hA,hB,hC,hD⟩:=h;k hA hB hC hD
theorem eQ04{A B C D E:Prop}(k:A->B->C->D->E->g)(h:A/\B/\C/\D/\E):g:=let ⟨hA,hB,hC,hD,hE⟩:=h;k hA hB hC hD hE
theorem eQ11{A B:Q->Prop}(k:∀a,A a->B a->g)(h:∃a,A a/\B a):g:=let ⟨a,hA,hB⟩:=h;k a hA hB
theorem eQ12{A B C:Q->Prop}(k:∀a,A a->B a->C a->g)(h:∃a,A a/\B a/\C a):g:=let ⟨a,hA,hB,hC⟩:=h;k a hA hB hC
theorem eQ13{A B C D:Q->Prop}(k:∀a,A a->B a->C a->D a->g)(h:∃a,A a/\B a/\C a/\D a):g:=let ⟨a,hA,hB,hC,hD⟩:=h;k a hA hB hC hD
theorem eQ14{A B C D E:Q->Prop}(k:∀a,A a->B a->C a->D a->E a->g)(h:∃a,A a/\B a/\C a/\D a/\E a):g:=let ⟨a,hA,hB,hC,hD,hE⟩:=h;k a hA hB hC hD hE
theorem eQ20{A:Q->R->Prop}(k:∀a b,A a b->g)(h:∃a b,A a b):g:=let ⟨a,b,hA⟩:=h;k a b hA
theorem eQ21{A B:Q->R->Prop}(k:∀a b,A a b->B a b->g)(h:∃a b,A a b/\B a b):g:=let ⟨a,b,hA,hB⟩:=h;k a b hA hB
theorem eQ22{A B C:Q->R->Prop}(k:∀a b,A a b->B a b->C a b->g)(h:∃a b,A a b/\B a b/\C a b):g:=let ⟨a,b,hA,hB,hC⟩:=h;k a b hA hB hC
theorem eQ23{A B C D:Q->R->Prop}(k:∀a b,A a b->B a b->C a b->D a b->g)(h:∃a b,A a b/\B a b/\C a b/\D a b):g:=let ⟨a,b,hA,hB,hC,hD⟩:=h;k a b hA hB hC hD
theorem eQ24{A B C D E:Q->R->Prop}(k:∀a b,A a b->B a b->C a b->D a b->E a b->g)(h:∃a b,A a b/\B a b/\C a b/\D a b/\E a b):g:=let ⟨a,b,hA,hB,hC,hD,hE⟩:=h;k a b hA hB hC hD hE
theorem eQ30{A:Q->R->S->Prop}(k:∀a b c,A a b c->g)(h:∃a b c,A a b c):g:=let ⟨a,b,c,hA⟩:=h;k a b c hA
theorem eQ31{A B:Q->R->S->Prop}(k:∀a b c,A a b c->B a b c->g)(h:∃a b c,A a b c/\B a b c):g:=let ⟨a,b,c,hA,hB⟩:=h;k a b c hA hB
theorem eQ32{A B C:Q->R->S->Prop}(k:∀a b c,A a b c->B a b c->C a b c->g)(h:∃a b c,A a b c/\B a b c/\C a b c):g:=let ⟨a,b,c,hA,hB,hC⟩:=h;k a b c hA hB hC
theorem eQ33{A B C D:Q->R->S->Prop}(k:∀a b c,A a b c->B a b c->C a b c->D a b c->g)(h:∃a b c,A a b c/\B a b c/\C a b c/\D a b c):g:=let ⟨a,b,c,hA,hB,hC,hD⟩:=h;k a b c hA hB hC hD
theorem eQ34{A B C D E:Q->R->S->Prop}(k:∀a b c,A a b c->B a b c->C a b c->D a b c->E a b c->g)(h:∃a b c,A a b c/\B a b c/\C a b c/\D a b c/\E a b c):g:=let ⟨a,b,c,hA,hB,hC,hD,hE⟩:=h;k a b c hA hB hC hD hE
theorem eQ40{A:Q->R->S->T->Prop}(k:∀a b c d,A a b c d->g)(h:∃a b c d,A a b c d):g:=let ⟨a,b,c,d,hA⟩:=h;k a b c d hA
theorem eQ41{A B:Q->R->S->T->Prop}(k:∀a b c d,A a b c d->B a b c d->g)(h:∃a b c d,A a b c d/\B a b c d):g:=let ⟨a,b,c,d,hA,hB⟩:=h;k a b c d hA hB
theorem eQ42{A B C:Q->R->S->T->Prop}(k:∀a b c d,A a b c d->B a b c d->C a b c d->g)(h:∃a b c d,A a b c d/\B a b c d/\C a b c d):g:=let ⟨a,b,c,d,hA,hB,hC⟩:=h;k a b c d hA hB hC
theorem eQ43{A B C D:Q->R->S->T->Prop}(k:∀a b c d,A a b c d->B a b c d->C a b c d->D a b c d->g)(h:∃a b c d,A a b c d/\B a b c d/\C a b c d/\D a b c d):g:=let ⟨a,b,c,d,hA,hB,hC,hD⟩:=h;k a b c d hA hB hC hD
theorem eQ44{A B C D E:Q->R->S->T->Prop}(k:∀a b c d,A a b c d->B a b c d->C a b c d->D a b c d->E a b c d->g)(h:∃a b c d,A a b c d/\B a b c d/\C a b c d/\D a b c d/\E a b c d):g:=let ⟨a,b,c,d,hA,hB,hC,hD,hE⟩:=h;k a b c d hA hB hC hD hE
end
@[inline] def zTt(v:Option Lean.Term)(q:Array (Lean.TSyntax `Lean.Parser.Tactic.rcasesPatLo))(ps:Array (Lean.TSyntax `rintroPat)):Lean.MacroM (Lean.TSyntax `tactic):=do
 let n:=q.size
 let mut t<-match v with
  |none=>`(tactic|(intro h;rcases h with ⟨$q,*⟩))
  |some v=>`(tactic|rcases $v:term with ⟨$q,*⟩)
 if ps.size>0 then t<-`(tactic|$t:tactic<;>rintro $ps*)
 for s in [2:n] do
  let mut p:=#[]
  let mut hs:=#[]
  for x in q[:if s+1=n then n else s] do
   if x.raw[0][0].getNumArgs==1&&x.raw[0][0][0][0].getId==`rfl then
    let h:=Lean.mkIdent (<-Lean.MonadQuotation.addMacroScope (.mkSimple s!"h{hs.size}"))
    hs:=hs.push h
    p:=p.push (<-`(rintroPat|$h:ident))
   else p:=p.push (<-`(rintroPat|($x:rcasesPatLo)))
  if s+1<n then
   let r:=q[s:].toArray
   p:=p.push (<-`(rintroPat|⟨$r,*⟩))
  p:=p++ps
  let mut u<-`(tactic|rintro $p*)
  if hs.size>0 then u<-`(tactic|$u:tactic<;>subst $hs*)
  for i in [0:s+1] do
   if i<5&&s-i<5 then
    let nm:=Lean.mkIdent (.mkSimple s!"eQ{i}{s-i}")
    match v with
    |none=>t<-`(tactic|first|(refine $nm ?_;$u:tactic)|$t:tactic)
    |some v=>if v.raw.isIdent then t<-`(tactic|first|(refine $nm ?_ $v;(try clear $v);$u:tactic)|$t:tactic) else t<-`(tactic|first|(refine $nm ?_ $v;$u:tactic)|$t:tactic)
 pure t
theorem Jkk{p:Prop}(h:p:=by decide +kernel):p:=h
theorem Jkl{p:Prop}(h:p:=by kernel_rfl):p:=h
theorem Jkm{p:Prop}(h:p:=by decide):p:=h
theorem Jlk{p:Prop}(h:p:=by omega):p:=h
theorem Jll{p:Prop}(h:p:=by simp):p:=h
theorem Jlm{p:Prop}(h:p:=by rfl):p:=h
end Zq
open Zq
local macro_rules|`(tactic|obtain ⟨$p,*⟩:=$v)=>if p.getElems.size<3 then Lean.Macro.throwUnsupported else zTt v p #[]
local macro_rules|`(tactic|rintro $p*)=>do
 let some t:=p.findIdx? fun x=>x.raw[0].isOfKind `Lean.Parser.Tactic.rcasesPat.tuple&&x.raw[0][1].getSepArgs.size>2|Lean.Macro.throwUnsupported
 let b<-zTt none (p[t]!.raw[0][1].getSepArgs.map (⟨·⟩)) p[t+1:].toArray
 let a:=p[:t].toArray
 if t>0 then `(tactic|(rintro $a*;$b:tactic)) else pure b
section
open PySem PySem.Spec PyProof.Rows
namespace L2
abbrev Key:=Sum Int Str
def iO:Key->Value->Bool
 | .inl k,v=>Value.isInt k v
 | .inr x,v=>Value.isStrOf x v
def Jv(w:World):Key->Int
 | .inl k=>hashInt k
 | .inr x=>hashStr w x
theorem bS:∀{k:Key} {v:Value},iO k v=true->(∃i t,k=Sum.inl i/\v=Value.int i t)\/(∃x t,k=Sum.inr x/\v=Value.str x t)
 | .inl i,v,h=>by
  obtain ⟨t,e⟩:=Value.isInt_shape (k:=i) (v:=v) h;exact .inl (zAE i t rfl e)
 | .inr x,v,h=>by obtain ⟨t,e⟩:=Value.isStrOf_shape (x:=x) (v:=v) h;exact .inr (zAE x t rfl e)
theorem vT(i:Int)(t:Tok):iO (.inl i) (.int i t)=true:=by simp [iO,Value.isInt]
theorem vU(x:Str)(t:Tok):iO (.inr x) (.str x t)=true:=by simp [iO,Value.isStrOf]
theorem EM(a b:Int):decide ((Sum.inl a:Key)=Sum.inl b)=(a==b):=by
 by_cases e:a=b
 ·subst e;simp
 ·have h:¬(Sum.inl a:Key)=Sum.inl b:=fun q=>e (Sum.inl.inj q);rw [bh h];exact (beq_eq_false_iff_ne.mpr e).symm
theorem EQ(a b:Str):decide ((Sum.inr a:Key)=Sum.inr b)=decide (a=b):=by
 by_cases e:a=b
 ·subst e;simp
 ·have h:¬(Sum.inr a:Key)=Sum.inr b:=fun q=>e (Sum.inr.inj q);rw [bh h,bh e]
theorem EN(a:Int)(b:Str):decide ((Sum.inl a:Key)=Sum.inr b)=false:=bh (fun q=>nomatch q)
theorem EO(a:Str)(b:Int):decide ((Sum.inr a:Key)=Sum.inl b)=false:=bh (fun q=>nomatch q)
def bB(prog:Program)(w:World):PySem.KeyKind prog w Key where
 is:=iO
 hash:=Jv w
 inj:=fun v a b ha hb=>by
  rcases bS ha with ⟨i,t,rfl,rfl⟩ | ⟨x,t,rfl,rfl⟩
  ·rcases bS hb with ⟨j,u,rfl,e⟩ | ⟨y,u,rfl,e⟩
   ·injection e with e1 _;rw [e1]
   ·exact nomatch e
  ·rcases bS hb with ⟨j,u,rfl,e⟩ | ⟨y,u,rfl,e⟩
   ·exact nomatch e
   ·injection e with e1 _;rw [e1]
 byValue:=fun k v h=>by rcases bS h with ⟨i,t,rfl,rfl⟩ | ⟨x,t,rfl,rfl⟩<;>rfl
 pyHash:=fun hv h=>by
  rcases bS hv with ⟨i,t,rfl,rfl⟩ | ⟨x,t,rfl,rfl⟩
  ·exact wpAny_pyHash_int h
  ·exact wpAny_pyHash_str h
 eqBool:=fun hu hv h=>by
  rcases bS hu with ⟨i,t,rfl,rfl⟩ | ⟨x,t,rfl,rfl⟩
  ·rcases bS hv with ⟨j,u,rfl,rfl⟩ | ⟨y,u,rfl,rfl⟩
   ·rw [EM] at h;exact wpAny_eqBool_int h
   ·rw [EN] at h;exact SeqAt.EqAt.int_str i t y u _ _ _ _ h
  ·rcases bS hv with ⟨j,u,rfl,rfl⟩ | ⟨y,u,rfl,rfl⟩
   ·rw [EO] at h;exact SeqAt.EqAt.str_int x t j u _ _ _ _ h
   ·rw [EQ] at h;exact wpAny_eqBool_str h
 «strs»:=fun k x t v h=>by
  rcases bS h with ⟨i,u,rfl,e⟩ | ⟨y,u,rfl,e⟩
  ·exact nomatch e
  ·injection e with e1 _;subst e1
   cases v<;>rfl
theorem oT(prog:Program)(w:World)(i:Int)(t:Tok):(bB prog w).is (.inl i) (.int i t)=true:=vT i t
theorem oU(prog:Program)(w:World)(x:Str)(t:Tok):(bB prog w).is (.inr x) (.str x t)=true:=vU x t
end L2
namespace L2
inductive V where
 |non | bl (b:Bool) | int (i:Int) | str (x:Str) | byt (b:Array UInt8) | flt (b:UInt64) | ref (a:Addr) | ty (n:String)
 deriving DecidableEq
def RelV:V->Value->Prop
 | .non,u=>u=Value.none
 | .bl b,u=>u=Value.bool b
 | .int i,u=>∃t,u=Value.int i t
 | .str x,u=>∃t,u=Value.str x t
 | .byt b,u=>∃t,u=Value.bytes b t
 | .flt b,u=>∃t,u=Value.float b t
 | .ref a,u=>u=Value.ref a
 | .ty n,u=>u=Value.type n
abbrev Vals:List V->List Value->Prop:=Paired RelV
theorem Vals.length{xs:List V}{us:List Value}(r:Vals xs us):xs.length=us.length:=Paired.length r
theorem Vals.get:∀{xs:List V} {us:List Value} {i:Nat} {x:V},Vals xs us->xs[i]?=some x->∃u,us[i]?=some u/\RelV x u
 |_,_,_,_,.nil,e=>by simp at e
 |_,_,0,_,.cons r _,e=>by simp at e;subst e;exact zn _ rfl r
 |_,_,i+1,x,.cons _ t,e=>by obtain ⟨u,h1,h2⟩:=Vals.get (i:=i) (x:=x) t (by simpa using e);exact zn u (by simpa using h1) h2
theorem Vals.set{x:V}{u:Value}(r:RelV x u):∀{xs:List V} {us:List Value} (i:Nat),Vals xs us->Vals (xs.set i x) (us.set i u)
 |_,_,_,.nil=>.nil
 |_,_,0,.cons _ t=>.cons r t
 |_,_,i+1,.cons q t=>.cons q (Vals.set r i t)
theorem Vals.append:∀{xs ys:List V} {us ws:List Value},Vals xs us->Vals ys ws->Vals (xs++ys) (us++ws)
 |_,_,_,_,.nil,s=>s
 |_,_,_,_,.cons r t,s=>.cons r (Vals.append t s)
theorem Vals.take:∀{xs:List V} {us:List Value} (n:Nat),Vals xs us->Vals (xs.take n) (us.take n)
 |_,_,0,_=>.nil
 |_,_,_+1,.nil=>.nil
 |_,_,n+1,.cons r t=>.cons r (Vals.take n t)
theorem Vals.drop:∀{xs:List V} {us:List Value} (n:Nat),Vals xs us->Vals (xs.drop n) (us.drop n)
 |_,_,0,r=>r
 |_,_,_+1,.nil=>.nil
 |_,_,n+1,.cons _ t=>Vals.drop n t
def RelO:Option V->Option Value->Prop
 |some v,some u=>RelV v u
 |none,none=>True
 |_,_=>False
def KV{κ:Type}:List (κ×V)->List (κ×Value)->Prop:=Paired fun (p:κ×V) (q:κ×Value)=>p.1=q.1/\RelV p.2 q.2
def kV:Key->V
 | .inl i=>.int i
 | .inr x=>.str x
inductive HO where
 /-- a list -/
 |lst (xs:List V)
 /-- a tuple (never changes) -/
 |tup (xs:List V)
 /-- a dict whose keys are ints and texts;one whose keys are tuples of ints and texts (the empty one is both) -/
 |dK (kvs:List (Key×V)) | dT (kvs:List (List Key×V))
 /-- a set of ints: its members,its size -/
 |set (S:Int->Bool) (n:Nat)
 /-- an instance of the class at C,its dict at dx,its attributes -/
 |ins (C dx:Addr) (fs:List (Str×V))
 /-- the dict of the instance at x -/
 |own (x:Addr)
 /-- the dict of an exception -/
 |xd (fs:List (Str×V))
 /-- a bound method,f of x -/
 |met (f x:Addr)
 /-- a range object lo,lo+1,.. below hi -/
 |rng (lo hi:Int)
 /-- a thing that is known to the object (the script;a dict while a loop walks it): read,never written while it is so -/
 |frz (o:Obj) (u:HO)
 /-- a code object's table -/
 |tbl (ps:Array Value)
 /-- any other thing,by what is true of its one object (a def of one's own: SetO a S n:=HO.ext fun h=>..) -/
 |ext (φ:Heap->Prop)
abbrev Hp:=Addr->Option HO
variable {b:Addr} {u:HO}
def upd(H:Hp)(a:Addr)(o:HO):Hp:=fun b=>if b=a then some o else H b
theorem ae{H:Hp}{a:Addr}{o:HO}:upd H a o a=some o:=by unfold upd;rw [zq2 rfl]
theorem ao{H:Hp}{a:Addr}{o:HO}(h:b≠a):upd H a o b=H b:=by unfold upd;rw [zq1 h]
theorem CI{H:Hp}{a:Addr}{o:HO}:upd (upd H a o) a u=upd H a u:=by funext b;unfold upd;split<;>rfl
theorem du{H:Hp}{a:Addr}{o:HO}(h:H a=some o)(h':H b=some u)(d:o≠u):a≠b:=by intro e;subst e;rw [h] at h';exact d (Option.some.inj h')
theorem am{H:Hp}{a:Addr}{o:HO}(h:H a=some o)(h':H b=none):a≠b:=by intro e;subst e;rw [h] at h';cases h'
section
variable (P:Program) (w:World)
def ObjOk(H:Hp)(h:Heap)(a:Addr):HO->Prop
 | .lst xs=>xs.length<=sizeLine/\∃(its:List Value)(n:Nat),Vals xs its/\h.get? a=some {cls:=.type "list",data:=.seq its.toArray n}
 | .tup xs=>xs.length<=sizeLine/\∃its:List Value,Vals xs its/\IsTup h a its.toArray
 | .dK kvs=>kvs.length<=sizeLine/\(a==sysModules)=false/\∃vs,KV kvs vs/\h.DictOf (bB P w) a vs
 | .dT kvs=>kvs.length<=sizeLine/\(a==sysModules)=false/\∃xs:List (List Key×Addr×Value),
   Paired (fun (p:List Key×V) (q:List Key×Addr×Value)=>p.1=q.1/\H q.2.1=some (.tup (p.1.map kV))/\RelV p.2 q.2.2) kvs xs/\
   ∃o es ep,h.get? a=some o/\o.ExactDict/\o.data=.dict es ep/\es.toList=xs.map (entryOfKey (tupleKind (bB P w)))/\(xs.map (·.1)).Nodup
 | .set S n=>h.SetOf (intKind P w) a S n
 | .ins C dx fs=>H dx=some (.own a)/\fs.length<=1000/\dx≠a/\h.get? a=some (W.instObj C dx)/\
   ∃mA,h.Ns1 dx mA/\(∀f,RelO (fs.lookup f) (mA f))/\PySem.Within mA (fs.map (·.1))
 | .own _=>∃o,h.get? a=some o
 | .xd fs=>∃mA,h.Ns1 a mA/\∀f,RelO (fs.lookup f) (mA f)
 | .rng lo hi=>∃t u v,h.get? a=some {cls:=.type "range",data:=.fields #[.int lo t,.int hi u,.int 1 v]}
 | .frz o u=>h.get? a=some o/\ObjOk H h a u
 | .tbl ps=>h.get? a=some {cls:=.none,data:=.fields ps}
 | .met f x=>h.get? a=some (W.methodObj (.ref f) (.ref x))
 | .ext φ=>φ h/\(∃o,h.get? a=some o)/\∀h1 h2:Heap,φ h1->(∀o,h1.get? a=some o->h2.get? a=some o)->φ h2
def HOk(H:Hp)(h:Heap):Prop:=∀a o,H a=some o->ObjOk P w H h a o
end
section
variable {P:Program} {w:World} {H H':Hp} {h h':Heap} {a:Addr} {o:HO}
theorem ObjOk.lt(x:ObjOk P w H h a o):a<h.objs.size:=by
 cases o with
 |lst xs=>obtain ⟨_,_,_,_,e⟩:=x;exact bH e
 |tup xs=>obtain ⟨_,_,_,p⟩:=x;exact p.lt
 |dK kvs=>obtain ⟨_,_,_,_,o,_,_,e,_⟩:=x;exact bH e
 |dT kvs=>obtain ⟨_,_,_,_,o,_,_,e,_⟩:=x;exact bH e
 |set S n=>obtain ⟨o,_,_,_,e,_⟩:=x;exact bH e
 |ins C dx fs=>obtain ⟨_,_,_,e,_⟩:=x;exact bH e
 |own y=>obtain ⟨_,e⟩:=x;exact bH e
 |xd fs=>obtain ⟨_,⟨_,_,_,e,_⟩,_⟩:=x;exact bH e
 |rng lo hi=>obtain ⟨_,_,_,e⟩:=x;exact bH e
 |frz ob u=>obtain ⟨e,_⟩:=x;exact bH e
 |tbl ps=>exact bH (show h.get? a=some _ from x)
 |met f y=>exact bH (show h.get? a=some _ from x)
 |ext φ=>obtain ⟨_,⟨_,e⟩,_⟩:=x;exact bH e
theorem Paired.mapP{α β:Type}{F G:α->β->Prop}:∀{l₁:List α} {l₂:List β},Paired F l₁ l₂->(∀a b,F a b->G a b)->Paired G l₁ l₂
 |_,_,.nil,_=>.nil
 |_,_,.cons r t,f=>.cons (f _ _ r) (Paired.mapP t f)
theorem ObjOk.stay(x:ObjOk P w H h a o)(k:∀b u,(b=a\/H b=some (.own a))->h.get? b=some u->h'.get? b=some u)
  (ho:∀b,H b=some (.own a)->H' b=some (.own a)) (ht:∀b xs,H b=some (.tup xs)->H' b=some (.tup xs)):ObjOk P w H' h' a o:=by
 induction o with
 |lst xs=>obtain ⟨z,its,n,r,e⟩:=x;exact ⟨z,zAE its n r (k _ _ (.inl rfl) e)⟩
 |tup xs=>obtain ⟨z,its,r,ob,e,c⟩:=x;exact ⟨z,zn its r (zn ob (k _ _ (.inl rfl) e) c)⟩
 |dK kvs=>obtain ⟨z,y,vs,r,ob,es,ep,e,c⟩:=x;exact zAB z y (zn vs r (zAK ob es ep (k _ _ (.inl rfl) e) c))
 |dT kvs=>
  obtain ⟨z,y,xs,r,ob,es,ep,e,c⟩:=x;exact zAB z y (zn xs (Paired.mapP r fun p q z=>zAB z.1 (ht _ _ z.2.1) z.2.2) (zAK ob es ep (k _ _ (.inl rfl) e) c))
 |set S n=>obtain ⟨ob,es,ep,t,e,c⟩:=x;exact zAU ob es ep t (k _ _ (.inl rfl) e) c
 |ins C dx fs=>
  obtain ⟨d,z,ne,e,mA,⟨od,es,ep,e2,c⟩,r⟩:=x;exact zAJ (ho _ d) z ne (k _ _ (.inl rfl) e) (zn mA (zAK od es ep (k _ _ (.inr d) e2) c) r)
 |own y=>obtain ⟨ob,e⟩:=x;exact ⟨ob,k _ _ (.inl rfl) e⟩
 |xd fs=>obtain ⟨mA,⟨od,es,ep,e,c⟩,r⟩:=x;exact zn mA (zAK od es ep (k _ _ (.inl rfl) e) c) r
 |rng lo hi=>obtain ⟨t,u,v,e⟩:=x;exact zAL t u v (k _ _ (.inl rfl) e)
 |frz ob u ih=>obtain ⟨e,q⟩:=x;exact ⟨k _ _ (.inl rfl) e,ih q⟩
 |tbl ps=>
  have e:h.get? a=some {cls:=.none,data:=.fields ps}:=x;show h'.get? a=some {cls:=.none,data:=.fields ps};exact k a _ (.inl rfl) e
 |met f y=>
  have e:h.get? a=some (W.methodObj (.ref f) (.ref y)):=x;show h'.get? a=some (W.methodObj (.ref f) (.ref y));exact k a _ (.inl rfl) e
 |ext φ=>obtain ⟨p,⟨o,e⟩,st⟩:=x;exact zAB (st _ _ p fun o q=>k _ _ (.inl rfl) q) ⟨o,k _ _ (.inl rfl) e⟩ st
theorem HOk.lt(x:HOk P w H h)(e:H a=some o):a<h.objs.size:=(x a o e).lt
theorem HOk.fresh(x:HOk P w H h)(e:h.objs.size<=a):H a=none:=by
 cases q:H a with
 |none=>rfl
 |some u=>exact absurd (fh (x.lt q) e) (qD _)
theorem HOk.kept(x:HOk P w H h)(k:∀b u,h.get? b=some u->h'.get? b=some u):HOk P w H h':=fun a o e=>(x a o e).stay (fun b u _ q=>k b u q) (fun _ q=>q) fun _ _ q=>q
theorem HOk.laid(x:HOk P w H h)(k:∀b u,h.get? b=some u->h'.get? b=some u)(hp:h.objs.size<=a)(new:ObjOk P w (upd H a o) h' a o):HOk P w (upd H a o) h':=fun b u e=>by
 have hn:=x.fresh hp
 by_cases hb:b=a
 ·subst hb;rw [ae] at e;cases e;exact new
 ·rw [ao hb] at e;exact (x b u e).stay (fun c v _ q=>k c v q) (fun c q=>by rw [ao (am q hn)];exact q) fun c xs q=>by rw [ao (am q hn)];exact q
end
def Rd(H:Hp)(a:Addr)(u:HO):Prop:=H a=some u\/∃o,H a=some (.frz o u)
theorem Rd.ok{P:Program}{w:World}{H:Hp}{h:Heap}{a:Addr}(r:Rd H a u)(x:HOk P w H h):ObjOk P w H h a u:=by
 rcases r with r | ⟨o,r⟩
 ·exact x a u r
 ·obtain ⟨_,q⟩:=x a _ r;exact q
def Mut:Option HO->Prop
 |some (.lst _)=>True
 |some (.dK _)=>True
 |some (.dT _)=>True
 |some (.set _ _)=>True
 |some (.ins _ _ _)=>True
 |some (.ext _)=>True
 |_=>False
section
variable {P:Program} {w:World} {H:Hp} {h h':Heap} {x e:Addr} {o':HO}
theorem HOk.write(ok:HOk P w H h)(mu:Mut (H x))(he:e=x\/H e=some (.own x))(k:∀b u,b≠e->h.get? b=some u->h'.get? b=some u)(heo:∃u,h'.get? e=some u)
  (new:ObjOk P w (upd H x o') h' x o'):HOk P w (upd H x o') h':=fun b u q=>by
 have nown:∀c y,H c=some (.own y)->c≠x:=fun c y r z=>by subst z;rw [r] at mu;exact mu
 have ntup:∀c xs,H c=some (.tup xs)->c≠x:=fun c xs r z=>by subst z;rw [r] at mu;exact mu
 by_cases hb:b=x
 ·subst hb;rw [ae] at q;cases q;exact new
 ·rw [ao hb] at q
  by_cases hbe:b=e
  ·have q':H b=some (.own x):=by
    rcases he with z | z
    ·exact absurd (hbe.trans z) hb
    ·rw [hbe];exact z
   rw [q] at q';cases q';obtain ⟨v,hv⟩:=heo;exact ⟨v,by rw [hbe];exact hv⟩
  ·refine (ok b u q).stay (fun c v hc r=>k c v ?_ r) (fun c r=>by rw [ao (nown c b r)];exact r) fun c xs r=>by rw [ao (ntup c xs r)];exact r
   rcases hc with rfl | hc
   ·exact hbe
   ·rintro rfl;rcases he with z | z
    ·exact nown c b hc z
    ·rw [hc] at z;cases z;exact hb rfl
end
structure Un(fs ex:List Addr)(H H':Hp)(h h':Heap):Prop where
 keep:∀b o,h.get? b=some o->H b=none->b∉fs->b∉ex->h'.get? b=some o
 slot:∀b o,h.get? b=some o->H b=none->b∈fs->b∉ex->∃sl,h'.get? b=some {o with slots:=sl}
 free:∀b o,h.get? b=some o->H b=none->b∉ex->H' b=none
 there:∀b o,h.get? b=some o->b∉ex->∃o',h'.get? b=some o'
 tups:∀b xs,H b=some (.tup xs)->H' b=some (.tup xs)
 frzs:∀b o u,H b=some (.frz o u)->H' b=some (.frz o u)
 tbls:∀b ps,H b=some (.tbl ps)->∃more,H' b=some (.tbl (ps++more))
section
variable {fs fs' ex ex':List Addr} {H H1 H2:Hp} {h h1 h2 h':Heap} {a x e:Addr} {o:HO}
theorem Un.any(u:Un fs ex H H1 h h1){ob:Obj}(q:h.get? b=some ob)(n:H b=none)(hx:b∉ex):∃sl,h1.get? b=some {ob with slots:=sl}:=by
 by_cases hb:b∈fs
 ·exact u.slot b ob q n hb hx
 ·exact ⟨ob.slots,u.keep b ob q n hb hx⟩
theorem Un.kept(k:∀b u,h.get? b=some u->h'.get? b=some u):Un fs ex H H h h':=
 ⟨fun b ob q _ _ _=>k b ob q,fun b ob q _ _ _=>⟨ob.slots,k b ob q⟩,fun _ _ _ n _=>n,fun b ob q _=>⟨ob,k b ob q⟩,fun _ _ q=>q,fun _ _ _ q=>q,fun _ ps q=>⟨#[],by rw [q];simp⟩⟩
theorem Un.refl:Un fs ex H H h h:=Un.kept fun _ _ q=>q
theorem Un.laid(k:∀b u,h.get? b=some u->h'.get? b=some u)(hp:h.objs.size<=a)(hn:H a=none):Un fs ex H (upd H a o) h h' where
 keep:=fun b u q _ _ _=>k b u q
 slot:=fun b u q _ _ _=>⟨u.slots,k b u q⟩
 free:=fun b u q n _=>by rw [ao (cf (fh (bH q) hp))];exact n
 there:=fun b u q _=>⟨u,k b u q⟩
 tups:=fun b xs q=>by rw [ao (am q hn)];exact q
 frzs:=fun b u xs q=>by rw [ao (am q hn)];exact q
 tbls:=fun b ps q=>⟨#[],by rw [ao (am q hn),q];simp⟩
theorem Un.write(mu:Mut (H x))(he:e=x\/H e=some (.own x))(k:∀b u,b≠e->h.get? b=some u->h'.get? b=some u)(heo:∃u,h'.get? e=some u):Un fs ex H (upd H x o) h h':=by
 have hx:∀b,H b=none->b≠x:=fun b n z=>by subst z;rw [n] at mu;exact mu
 have hb:∀b,H b=none->b≠e:=fun b n z=>by
  subst z;rcases he with r | r
  ·exact hx b n r
  ·rw [n] at r;cases r
 have hm:∀b u,H b=some u->¬Mut (some u)->b≠x:=fun b u q nm z=>by subst z;rw [q] at mu;exact nm mu
 refine ⟨fun b u q n _ _=>k b u (hb b n) q,fun b u q n _ _=>⟨u.slots,k b u (hb b n) q⟩,fun b u q n _=>by rw [ao (hx b n)];exact n,fun b u q _=>?_,
  fun b xs q=>by rw [ao (hm b _ q fun z=>z)];exact q,fun b u xs q=>by rw [ao (hm b _ q fun z=>z)];exact q,fun b ps q=>⟨#[],by rw [ao (hm b _ q fun z=>z),q];simp⟩⟩
 by_cases hbe:b=e
 ·subst hbe;exact heo
 ·exact ⟨u,k b u hbe q⟩
end
def trk(h:Heap)(H:Hp):List Addr:=(List.range h.objs.size).filter fun a=>(H a).isSome
def mB(h:Heap)(H:Hp):Heap:=W.hideAll h (trk h H)
theorem vO(h:Heap)(H:Hp):(mB h H).objs.size=h.objs.size:=W.hideAll_size _ _
theorem xX{h:Heap}{H:Hp}{o:Obj}(e:h.get? b=some o)(n:H b=none):(mB h H).get? b=some o:=
 W.hideAll_get _ e fun hm=>by have q:(H b).isSome=true:=(zq67.mp hm).2;rw [n] at q;simp at q
theorem BN{h:Heap}{H:Hp}{o:Obj}(e:(mB h H).get? b=some o):h.get? b=some o/\H b=none:=by
 have e':h.get? b=some o:=W.of_hideAll (trk h H) e;refine ⟨e',?_⟩
 cases q:H b with
 |none=>rfl
 |some x=>have hm:b∈trk h H:=zq67.mpr ⟨zq33.mpr (bH e'),by simp [q]⟩;have z:(mB h H).get? b=none:=W.hideAll_none (trk h H) hm;rw [z] at e;cases e
def B7(g h:Heap)(L:Addr):List (Addr×Obj):=(List.range h.objs.size).filterMap fun a=>if a=L\/(g.get? a).isSome=true then none else (h.get? a).map fun o=>(a,o)
def dW(g h:Heap)(L d:Addr):List (Addr×Obj):=(B7 g h L).filter fun p=>decide (p.1≠d)
end L2
namespace L2
structure Mod(K:W.Frag)(mg:Str->Option Value)(base:Heap):Prop where
 kin:K.In base
 glob:base.Ns mainGlobals mg
 blt:∃mb,base.Ns builtinsNs mb/\∀x:Str,x≠"__name__"->mb x=bootBuiltins x
 nolimit:base.NoLimit
structure Cx where
 prog:Program
 w:World
 K:W.Frag
 mg:Str->Option Value
 base:Heap
 A:Around
 N:List Str
 s₀:Shared
 H₀:Hp
 env:Env
 outer:List Env
 stack:List Env
 ex:List Addr
 fn:Str->Bool
 calm:Bool
 pn:List (Addr×Obj)
 xe:Value->Shared->Prop
def frs(l:List Env):List Addr:=l.filterMap (·.frame)
abbrev Cx.fs (X:Cx):List Addr:=frs X.outer
def Vis(sc:Scope)(x:Str):Prop:=sc.names.lookup x=some .local\/sc.names.lookup x=some .cell\/sc.names.lookup x=some .free
def Loc(sc:Scope)(x:Str):Prop:=sc.names.lookup x=some .local\/sc.names.lookup x=some .cell
def Jl(env:Env)(h:Heap)(m:Str->Option Value)(x:Str)(u:Value):Prop:=
 (env.kindOf x=some .local/\m x=some u)\/((env.kindOf x=some .cell\/env.kindOf x=some .free)/\∃c,env.cells.lookup x=some c/\h.IsCell c (some u))
structure Cx.Ok(X:Cx):Prop where
 mod:Mod X.K X.mg X.base
 kind:X.env.scope.kind=.function
 glob:X.env.globals=mainGlobals
 blt:X.env.builtins=builtinsNs
 above:X.s₀.heap.objs.size<=X.env.locals
 inj:∀x y c,X.env.cells.lookup x=some c->X.env.cells.lookup y=some c->x=y
 has:∀x,(X.env.kindOf x=some .cell\/X.env.kindOf x=some .free)->∃c,X.env.cells.lookup x=some c
 cab:∀x c,X.fn x=true->X.env.cells.lookup x=some c->X.s₀.heap.objs.size<=c
 hd:X.calm=true->X.A.handled=none
 frames:X.A.frames=some X.stack
 stk:X.stack=X.outer\/(X.stack=X.env::X.outer/\X.env.frame=some X.env.locals)
 exf:∀b∈X.ex,b≠X.env.locals/\∀x c,X.env.cells.lookup x=some c->c≠b
 bs:∀b o,X.base.get? b=some o->X.s₀.heap.get? b=some o/\X.H₀ b=none
 bsz:X.base.objs.size<=X.s₀.heap.objs.size
 noex:∀b o,X.base.get? b=some o->b∉X.ex
 exfs:∀b∈X.ex,b∉X.fs
 funs:X.s₀.heap.FunFrames X.base X.outer
 frf:∀b∈X.fs,X.H₀ b=none
structure Inv(X:Cx)(pins:List (Addr×Obj))(σ:List (Option V))(H:Hp)(s:Shared):Prop where
 ok:X.Ok
 os:s.os=X.s₀.os
 bare:AllBare s.gens
 base:Un X.fs X.ex X.H₀ H X.s₀.heap s.heap
 loc:∃m,s.heap.Ns X.env.locals m/\∀(i:Nat)(x:Str)(v:V),X.N[i]?=some x->σ[i]?=some (some v)->Vis X.env.scope x->∃u,RelV v u/\Jl X.env s.heap m x u
 cell:∀x c,X.env.cells.lookup x=some c->∃v,s.heap.IsCell c v
 free:H X.env.locals=none
 freeC:∀x c,X.env.cells.lookup x=some c->H c=none
 pin:∀p∈X.pn++pins,s.heap.get? p.1=some p.2/\H p.1=none/\p.1≠X.env.locals/\p.1∉X.fs/\∀v,p.2.data≠.cell v
 hok:HOk X.prog X.w H s.heap
 len:σ.length=X.N.length
section
variable {X:Cx} {pins:List (Addr×Obj)} {σ:List (Option V)} {H H':Hp} {s:Shared} {h':Heap}
theorem Cx.Ok.nofr(ok:X.Ok){b:Addr}{o:Obj}(e:X.base.get? b=some o):b∉X.fs:=fun hb=>by have:=(ok.funs.mem hb).1;rw [e] at this;cases this
theorem Inv.bs(I:Inv X pins σ H s):∀b o,X.base.get? b=some o->s.heap.get? b=some o/\H b=none:=fun b o e=>⟨I.base.keep b o (I.ok.bs b o e).1 (I.ok.bs b o e).2 (I.ok.nofr e) (I.ok.noex b o e),I.base.free b o (I.ok.bs b o e).1 (I.ok.bs b o e).2 (I.ok.noex b o e)⟩
theorem Inv.bk(I:Inv X pins σ H s):∀b o,X.base.get? b=some o->s.heap.get? b=some o:=fun b o e=>(I.bs b o e).1
theorem Inv.mod(I:Inv X pins σ H s):Mod X.K X.mg X.base:=I.ok.mod
theorem Inv.kIn(I:Inv X pins σ H s):X.K.In s.heap:=I.ok.mod.kin.keeps I.bk
theorem Inv.lt(I:Inv X pins σ H s):X.env.locals<s.heap.objs.size:=let ⟨_,hn,_⟩:=I.loc;hn.lt
theorem Inv.sz(I:Inv X pins σ H s):X.s₀.heap.objs.size<=s.heap.objs.size:=dX I.ok.above (va I.lt)
theorem Inv.nofs(I:Inv X pins σ H s){a:Addr}(h:s.heap.objs.size<=a):a∉X.fs:=fun hb=>by obtain ⟨_,o,ho,_⟩:=I.ok.funs.mem hb;exact absurd (fh (bH ho) (dX I.sz h)) (qD _)
theorem Inv.cne(I:Inv X pins σ H s):∀x c,X.env.cells.lookup x=some c->c≠X.env.locals:=fun x c e z=>by obtain ⟨v,o,ho,hd⟩:=I.cell x c e;obtain ⟨m,⟨o',es,ep,ho',hd',_⟩,_⟩:=I.loc;rw [z,ho'] at ho;cases ho;rw [hd'] at hd;cases hd
theorem Inv.funs(I:Inv X pins σ H s):s.heap.FunFrames X.base X.outer:=by
 have all:∀(l:List Env),(∀b∈frs l,b∈X.fs)->X.s₀.heap.FunFrames X.base l->s.heap.FunFrames X.base l:=by
  intro l
  induction l with
  |nil=>intro _ _;trivial
  |cons env r ih=>intro hs hl;obtain ⟨hk,⟨L,o,hf,hn,ho,hd⟩,hr⟩:=hl;have hL:L∈X.fs:=hs L (by unfold frs;rw [vb,hf];exact cN);obtain ⟨sl,e⟩:=I.base.slot L o ho (I.ok.frf L hL) hL fun z=>I.ok.exfs L z hL;exact zAB hk (zAD L _ hf hn e hd) (ih (fun b hb=>hs b (by unfold frs;rw [vb,hf];exact b7 _ hb)) hr)
 exact all X.outer (fun _ hb=>hb) I.ok.funs
theorem Inv.stack(I:Inv X pins σ H s):s.heap.FunFrames X.base X.stack:=by
 rcases I.ok.stk with e | ⟨e,hf⟩
 ·rw [e];exact I.funs
 ·rw [e];obtain ⟨m,hn,_⟩:=I.loc;refine .cons (by rw [I.ok.kind];decide) hf hn ?_ I.funs;exact Heap.get?_none_of_le (dX I.ok.bsz I.ok.above)
theorem Inv.stkSub(I:Inv X pins σ H s):∀b∈frs X.stack,b∈X.env.locals::X.fs:=fun b hb=>by
 rcases I.ok.stk with e | ⟨e,hf⟩
 ·rw [e] at hb;exact b7 _ hb
 ·rw [e] at hb;unfold frs at hb;rw [vb,hf] at hb;exact hb
theorem Inv.stkFree(I:Inv X pins σ H s):∀b∈frs X.stack,H b=none:=fun b hb=>by
 rcases zq11.mp (I.stkSub b hb) with e | hb
 ·rw [e];exact I.free
 ·obtain ⟨_,o,ho,_⟩:=I.ok.funs.mem hb;exact I.base.free b o ho (I.ok.frf b hb) fun z=>I.ok.exfs b z hb
theorem Inv.step{g':Array GenState}{t':Nat}{d':Drawn}{ch:List Addr}(I:Inv X pins σ H s)
  (hch:∀b∈ch,(b∈X.ex\/X.s₀.heap.objs.size<=b)/\b≠X.env.locals/\(∀x c,X.env.cells.lookup x=some c->c≠b)/\∀p∈X.pn++pins,p.1≠b)
  (keep:∀b o,b≠X.env.locals->b∉X.fs->b∉ch->s.heap.get? b=some o->H b=none->h'.get? b=some o)
  (slot:∀b o,b≠X.env.locals->b∈X.fs->b∉ch->s.heap.get? b=some o->H b=none->∃sl,h'.get? b=some {o with slots:=sl}) (free:∀b o,b∉ch->s.heap.get? b=some o->H b=none->H' b=none)
  (there:∀b o,b∉ch->s.heap.get? b=some o->∃o',h'.get? b=some o')
  (tups:∀b xs,H b=some (.tup xs)->H' b=some (.tup xs)) (frzs:∀b o u,H b=some (.frz o u)->H' b=some (.frz o u)) (tbls:∀b ps,H b=some (.tbl ps)->∃more,H' b=some (.tbl (ps++more)))
  (ns:∀m,s.heap.Ns X.env.locals m->h'.Ns X.env.locals m) (hok:HOk X.prog X.w H' h') (hg:AllBare g') :
  Inv X pins σ H' {s with heap:=h',gens:=g',drawn:=d',toks:=t'}:=by
 have neL:∀b o,X.s₀.heap.get? b=some o->b≠X.env.locals:=fun b o e=>cf (fh (bH e) I.ok.above);have neC:∀b o,X.s₀.heap.get? b=some o->b∉X.ex->b∉ch:=fun b o e hx hb=>by
  rcases (hch b hb).1 with z | z
  ·exact hx z
  ·exact absurd (fh (bH e) z) (qD _)
 have cellK:∀x c,X.env.cells.lookup x=some c->∀v,s.heap.IsCell c v->h'.IsCell c v:=fun x c e v ⟨o,ho,hd⟩=>by
  have nch:c∉ch:=fun z=>(hch c z).2.2.1 x c e rfl
  by_cases hc:c∈X.fs
  ·obtain ⟨sl,q⟩:=slot c o (I.cne x c e) hc nch ho (I.freeC x c e);exact zn _ q hd
  ·exact zn o (keep c o (I.cne x c e) hc nch ho (I.freeC x c e)) hd
 refine ⟨I.ok,I.os,hg,⟨fun b o e n hb hx=>?_,fun b o e n hb hx=>?_,fun b o e n hx=>?_,fun b o e hx=>?_,fun b xs e=>tups b xs (I.base.tups b xs e),fun b o xs e=>frzs b o xs (I.base.frzs b o xs e),fun b ps e=>?_⟩,?_,fun x c e=>?_,?_,fun x c e=>?_,fun p hp=>?_,hok,I.len⟩
 ·exact keep b o (neL b o e) hb (neC b o e hx) (I.base.keep b o e n hb hx) (I.base.free b o e n hx)
 ·obtain ⟨sl,e1⟩:=I.base.slot b o e n hb hx;obtain ⟨sl',e2⟩:=slot b _ (neL b o e) hb (neC b o e hx) e1 (I.base.free b o e n hx);exact ⟨sl',e2⟩
 ·obtain ⟨o',e1⟩:=I.base.there b o e hx;exact free b o' (neC b o e hx) e1 (I.base.free b o e n hx)
 ·obtain ⟨o',e1⟩:=I.base.there b o e hx;exact there b o' (neC b o e hx) e1
 ·obtain ⟨m1,e1⟩:=I.base.tbls b ps e;obtain ⟨m2,e2⟩:=tbls b _ e1;exact ⟨m1++m2,by rw [e2,Array.append_assoc]⟩
 ·obtain ⟨m,hn,hl⟩:=I.loc;refine zn m (ns m hn) fun i x v e1 e2 e3=>?_;obtain ⟨u,r,l⟩:=hl i x v e1 e2 e3;refine zn u r ?_;rcases l with l | ⟨k,c,e,z⟩
  ·exact .inl l
  ·exact .inr ⟨k,zn c e (cellK x c e _ z)⟩
 ·obtain ⟨v,z⟩:=I.cell x c e;exact ⟨v,cellK x c e v z⟩
 ·obtain ⟨m,⟨o,_,_,ho,_⟩,_⟩:=I.loc;exact free _ o (fun z=>(hch _ z).2.1 rfl) ho I.free
 ·obtain ⟨v,o,ho,hd⟩:=I.cell x c e;exact free c o (fun z=>(hch c z).2.2.1 x c e rfl) ho (I.freeC x c e)
 ·obtain ⟨e,n,ne,nf,d⟩:=I.pin p hp;have nch:p.1∉ch:=fun z=>(hch p.1 z).2.2.2 p hp rfl;exact zAJ (keep p.1 p.2 ne nf nch e n) (free p.1 p.2 nch e n) ne nf d
theorem Inv.un{t':Nat}(I:Inv X pins σ H s)(u:Un X.fs [] H H' s.heap h')(hok:HOk X.prog X.w H' h'):Inv X pins σ H' {s with heap:=h',toks:=t'}:=by obtain ⟨m,⟨o,es,ep,ho,r⟩,_⟩:=id I.loc;obtain ⟨sl,hL⟩:=u.any ho I.free Jll;exact I.step (g':=s.gens) (d':=s.drawn) (ch:=[]) (fun _ z=>nomatch z) (fun b o _ hb _ e n=>u.keep b o e n hb Jll) (fun b o _ hb _ e n=>u.slot b o e n hb Jll) (fun b o _ e n=>u.free b o e n Jll) (fun b o _ e=>u.there b o e Jll) u.tups u.frzs u.tbls (fun m' hm=>by obtain ⟨o',es',ep',ho',r'⟩:=hm;rw [ho] at ho';cases ho';exact zAK _ es' ep' hL r') hok I.bare
theorem Inv.call{g':Array GenState}{t':Nat}{d':Drawn}{ch:List Addr}(I:Inv X pins σ H s)(u:Un (frs X.stack) ch H H' s.heap h')(hok:HOk X.prog X.w H' h')(hg:AllBare g')
  (hch:∀b∈ch,(b∈X.ex\/X.s₀.heap.objs.size<=b)/\b≠X.env.locals/\(∀x c,X.env.cells.lookup x=some c->c≠b)/\∀p∈X.pn++pins,p.1≠b) :
  Inv X pins σ H' {s with heap:=h',gens:=g',drawn:=d',toks:=t'}:=by
 obtain ⟨m,⟨o,es,ep,ho,r⟩,_⟩:=id I.loc;obtain ⟨sl,hL⟩:=u.any ho I.free fun z=>(hch _ z).2.1 rfl;exact I.step (ch:=ch) hch (fun b o hL hb hc e n=>u.keep b o e n (fun z=>(zq11.mp (I.stkSub b z)).elim hL hb) hc) (fun b o _ _ hc e n=>u.any e n hc) (fun b o hc e n=>u.free b o e n hc) (fun b o hc e=>u.there b o e hc) u.tups u.frzs u.tbls (fun m' hm=>by obtain ⟨o',es',ep',ho',r'⟩:=hm;rw [ho] at ho';cases ho';exact zAK _ es' ep' hL r') hok hg
theorem Inv.turned{t':Nat}{it:Addr}(I:Inv X pins σ H s)(k:∀b o,b≠it->s.heap.get? b=some o->h'.get? b=some o)(hn:H it=none)(hL:it≠X.env.locals)
  (h1:it∈X.ex\/X.s₀.heap.objs.size<=it) (h2:∀x c,X.env.cells.lookup x=some c->c≠it) (h3:∀p∈X.pn++pins,p.1≠it):Inv X pins σ H {s with heap:=h',toks:=t'}:=by
 have nit:∀b u,H b=some u->b≠it:=fun b u e z=>by rw [z,hn] at e;cases e
 refine I.step (g':=s.gens) (d':=s.drawn) (ch:=[it]) (fun b hb=>?_) (fun b o _ _ hc e _=>k b o (fun z=>hc (by simp [z])) e) (fun b o _ _ hc e _=>⟨o.slots,k b o (fun z=>hc (by simp [z])) e⟩) (fun _ _ _ _ n=>n)
  (fun b o hc e=>⟨o,k b o (fun z=>hc (by simp [z])) e⟩) (fun _ _ e=>e) (fun _ _ _ e=>e) (fun b ps e=>⟨#[],by rw [e];simp⟩) (fun m hm=>?_) (fun b u e=>?_) I.bare
 ·have e:b=it:=by simpa using hb
  subst e;exact zAF h1 hL h2 h3
 ·obtain ⟨o,es,ep,ho,r⟩:=hm;exact zAK o es ep (k _ o (Ne.symm hL) ho) r
 ·refine (I.hok b u e).stay (fun c v hc q=>k c v ?_ q) (fun _ q=>q) fun _ _ q=>q;rcases hc with z | z
  ·rw [z];exact nit b u e
  ·exact nit c _ z
theorem Inv.tok(I:Inv X pins σ H s)(t:Nat):Inv X pins σ H {s with toks:=t}:=I.un (h':=s.heap) (t':=t) Un.refl I.hok
theorem Inv.kept{t':Nat}(I:Inv X pins σ H s)(k:∀b u,s.heap.get? b=some u->h'.get? b=some u):Inv X pins σ H {s with heap:=h',toks:=t'}:=I.un (Un.kept k) (I.hok.kept k)
theorem Inv.laid{a:Addr}{o:HO}{t':Nat}(I:Inv X pins σ H s)(k:∀b u,s.heap.get? b=some u->h'.get? b=some u)(hp:s.heap.objs.size<=a)(new:ObjOk X.prog X.w (upd H a o) h' a o):
  Inv X pins σ (upd H a o) {s with heap:=h',toks:=t'}:=I.un (Un.laid k hp (I.hok.fresh hp)) (I.hok.laid k hp new)
theorem Inv.write{x e:Addr}{o:HO}{t':Nat}(I:Inv X pins σ H s)(mu:Mut (H x))(he:e=x\/H e=some (.own x))(k:∀b u,b≠e->s.heap.get? b=some u->h'.get? b=some u)(heo:∃u,h'.get? e=some u)
  (new:ObjOk X.prog X.w (upd H x o) h' x o):Inv X pins σ (upd H x o) {s with heap:=h',toks:=t'}:=I.un (Un.write mu he k heo) (I.hok.write mu he k heo new)
theorem Inv.pins_of{pins':List (Addr×Obj)}(I:Inv X pins σ H s)(h:∀p∈pins',s.heap.get? p.1=some p.2/\H p.1=none/\p.1≠X.env.locals/\p.1∉X.fs/\∀v,p.2.data≠.cell v):Inv X pins' σ H s:=
 ⟨I.ok,I.os,I.bare,I.base,I.loc,I.cell,I.free,I.freeC,fun p hp=>(zq20.mp hp).elim (fun z=>I.pin p (fk _ z)) (h p),I.hok,I.len⟩
theorem oZ{N:List Str}(hN:N.Nodup){i j:Nat}{x:Str}(a:N[i]?=some x)(b:N[j]?=some x):i=j:=by obtain ⟨h1,e1⟩:=zq7.mp a;obtain ⟨h2,e2⟩:=zq7.mp b;exact (List.getElem_inj hN).mp (e1.trans e2.symm)
theorem wN{M:Model}{A:Around}{E:Value->Shared->Prop}{i:Nat}{x:Str}{v:V}{u:Value}{Q:Unit->Shared->Prop}(I:Inv X pins σ H s)(hN:X.N.Nodup)(hi:X.N[i]?=some x)(hx:Loc X.env.scope x)(r:RelV v u)
  (h:∀s',Inv X pins (σ.set i (some v)) H s'->(∃a,Heap.SameBut a s.heap s'.heap/\(a=X.env.locals\/X.env.cells.lookup x=some a))->Q () s') (hf:X.fn x=true\/X.env.scope.names.lookup x=some .local:=by first | exact .inl rfl | exact .inr rfl | assumption):wpAny M A (storeName X.env x u) Q E s:=by
 obtain ⟨m,hn,hl⟩:=id I.loc;have hcls:(X.env.scope.kind==.class || (X.env.scope.kind==.module&&X.env.locals != X.env.globals))=false:=by rw [I.ok.kind];rfl
 have hiσ:i<σ.length:=by rw [I.len];exact (zq7.mp hi).1
 have cne:=I.cne;have tracked:∀{a:Addr} {h':Heap},(∃o,s.heap.get? a=some o/\H a=none)->Heap.SameBut a s.heap h'->HOk X.prog X.w H h':=fun {a h'} ha hs b ob e=>by
  obtain ⟨_,_,hfree⟩:=ha;refine (I.hok b ob e).stay (fun c w' hc q=>(hs.2 c ?_).trans q) (fun _ q=>q) fun _ _ q=>q;rintro rfl;rcases hc with rfl | hc
  ·rw [hfree] at e;cases e
  ·rw [hfree] at hc;cases hc
 rcases hx with hk | hk
 ·refine wpAny_storeName_local hk hn (fun h' hn' hs=>?_) hcls;obtain ⟨oL,_,_,hoL,_⟩:=id hn;refine h _ ⟨I.ok,I.os,I.bare,⟨fun b o e n hb hx=>?_,fun b o e n hb hx=>?_,I.base.free,fun b o e hx=>?_,I.base.tups,I.base.frzs,I.base.tbls⟩,zn _ hn' fun j y v' e1 e2 e3=>?_,fun y c e=>?_,I.free,I.freeC,fun p hp=>?_,tracked (zn oL hoL I.free) hs,by simpa using I.len⟩ (zn _ hs (.inl rfl))
  ·exact (hs.2 b (cf (fh (bH e) I.ok.above))).trans (I.base.keep b o e n hb hx)
  ·obtain ⟨sl,e1⟩:=I.base.slot b o e n hb hx;exact ⟨sl,(hs.2 b (cf (fh (bH e) I.ok.above))).trans e1⟩
  ·obtain ⟨o',e1⟩:=I.base.there b o e hx;exact ⟨o',(hs.2 b (cf (fh (bH e) I.ok.above))).trans e1⟩
  ·by_cases hj:j=i
   ·subst hj;rw [hi] at e1;cases e1;rw [E5 hiσ] at e2
    cases e2
    exact zn u r (.inl ⟨hk,Jll⟩)
   ·rw [Aq (Ne.symm hj)] at e2;obtain ⟨u',r',q⟩:=hl j y v' e1 e2 e3;refine zn u' r' ?_;rcases q with ⟨k,e⟩ | ⟨k,c,e,z⟩
    ·refine .inl ⟨k,?_⟩;have:y≠x:=fun e=>hj (oZ hN e1 (e ▸ hi));simp [this,e]
    ·exact .inr ⟨k,zn c e (z.sameBut hs (cne y c e))⟩
  ·obtain ⟨w',z⟩:=I.cell y c e;exact ⟨w',z.sameBut hs (cne y c e)⟩
  ·obtain ⟨e,n,ne,nf,d⟩:=I.pin p hp;exact zAJ ((hs.2 p.1 ne).trans e) n ne nf d
 ·have hfn:X.fn x=true:=by
   rcases hf with z | z
   ·exact z
   ·rw [z] at hk;cases hk
  obtain ⟨c,hc⟩:=I.ok.has x (.inl hk);obtain ⟨w',z⟩:=I.cell x c hc;refine wpAny_storeName_cell I.ok.kind hk hc z (fun h' hc' hs=>?_);obtain ⟨oc,hoc,hocd⟩:=id z;refine h {s with heap:=h'} ⟨I.ok,I.os,I.bare,⟨fun b o e n hb hx=>?_,fun b o e n hb hx=>?_,I.base.free,fun b o e hx=>?_,I.base.tups,I.base.frzs,I.base.tbls⟩,zn m (hn.sameBut hs (Ne.symm (cne x c hc))) fun j y v' e1 e2 e3=>?_,fun y c' e=>?_,I.free,I.freeC,fun p hp=>?_,tracked (zn oc hoc (I.freeC x c hc)) hs,by simpa using I.len⟩ (zn c hs (.inr hc))
  ·exact (hs.2 b (cf (fh (bH e) (I.ok.cab x c hfn hc)))).trans (I.base.keep b o e n hb hx)
  ·obtain ⟨sl,e1⟩:=I.base.slot b o e n hb hx;exact ⟨sl,(hs.2 b (cf (fh (bH e) (I.ok.cab x c hfn hc)))).trans e1⟩
  ·obtain ⟨o',e1⟩:=I.base.there b o e hx;exact ⟨o',(hs.2 b (cf (fh (bH e) (I.ok.cab x c hfn hc)))).trans e1⟩
  ·by_cases hj:j=i
   ·subst hj;rw [hi] at e1;cases e1;rw [E5 hiσ] at e2
    cases e2
    exact zn u r (.inr ⟨.inl hk,zn c hc hc'⟩)
   ·rw [Aq (Ne.symm hj)] at e2;obtain ⟨u',r',q⟩:=hl j y v' e1 e2 e3;refine zn u' r' ?_;rcases q with q | ⟨k,c',e,z'⟩
    ·exact .inl q
    ·refine .inr ⟨k,zn c' e (z'.sameBut hs ?_)⟩;rintro rfl;exact hj (oZ hN e1 (I.ok.inj _ _ _ e hc ▸ hi))
  ·by_cases hcc:c'=c
   ·subst hcc;exact ⟨_,hc'⟩
   ·obtain ⟨w2,z2⟩:=I.cell y c' e;exact ⟨w2,z2.sameBut hs hcc⟩
  ·obtain ⟨e,n,ne,nf,d⟩:=I.pin p hp;refine zAJ ((hs.2 p.1 ?_).trans e) n ne nf d;intro q;rw [q,hoc] at e;have q':oc=p.2:=Option.some.inj e;exact d w' (by rw [<- q'];exact hocd)
theorem pY{M:Model}{A:Around}{E:Value->Shared->Prop}{i:Nat}{x:Str}{v:V}{u:Value}{Q:Unit->Shared->Prop}(I:Inv X pins σ H s)(hN:X.N.Nodup)(hi:X.N[i]?=some x)(hx:Loc X.env.scope x)(r:RelV v u)
  (h:∀s',Inv X pins (σ.set i (some v)) H s'->Q () s') (hf:X.fn x=true\/X.env.scope.names.lookup x=some .local:=by first | exact .inl rfl | exact .inr rfl | assumption):wpAny M A (storeName X.env x u) Q E s:=
 wN I hN hi hx r (fun s' I' _=>h s' I') hf
theorem Inv.call'{s':Shared}{ch:List Addr}(I:Inv X pins σ H s)(ho:s'.os=s.os)(u:Un (frs X.stack) ch H H' s.heap s'.heap)(hok:HOk X.prog X.w H' s'.heap)(hg:AllBare s'.gens)
  (hch:∀b∈ch,(b∈X.ex\/X.s₀.heap.objs.size<=b)/\b≠X.env.locals/\(∀x c,X.env.cells.lookup x=some c->c≠b)/\∀p∈X.pn++pins,p.1≠b):Inv X pins σ H' s':=by
 obtain ⟨h',g',d',t',o'⟩:=s';have e:o'=s.os:=ho;subst e;exact I.call (g':=g') (t':=t') (d':=d') u hok hg hch
end
abbrev XK:=Value->Option Addr->Hp->Prop
abbrev St:=List (Option V)
abbrev VK:=V->Hp->Prop
abbrev TE:=St->Hp->VK->Prop
abbrev TT:=St->Hp->(Bool->Hp->Prop)->Prop
abbrev TA:=St->Hp->(List V->Hp->Prop)->Prop
structure cY where
 nx:St->Hp->Prop
 rt:VK
 bk:St->Hp->Prop:=fun _ _=>False
 ct:St->Hp->Prop:=fun _ _=>False
abbrev TS:=cY->St->Hp->Prop
def EP(X:Cx)(pins:List (Addr×Obj))(σ:St)(Q:VK)(u:Value)(s':Shared):Prop:=∃v H',Inv X pins σ H' s'/\RelV v u/\Q v H'
def TP(X:Cx)(pins:List (Addr×Obj))(σ:St)(Q:Bool->Hp->Prop)(b:Bool)(s':Shared):Prop:=∃H',Inv X pins σ H' s'/\Q b H'
def AP(X:Cx)(pins:List (Addr×Obj))(σ:St)(Q:List V->Hp->Prop)(us:List Value)(s':Shared):Prop:=∃vs H',Inv X pins σ H' s'/\Vals vs us/\Q vs H'
def SP(X:Cx)(pins:List (Addr×Obj))(D:cY)(f:Flow)(s':Shared):Prop:=
 match f with
 | .next=>∃σ' H',Inv X pins σ' H' s'/\D.nx σ' H'
 | .brk=>∃σ' H',Inv X pins σ' H' s'/\D.bk σ' H'
 | .cont=>∃σ' H',Inv X pins σ' H' s'/\D.ct σ' H'
 | .ret u=>∃v σ' H',Inv X pins σ' H' s'/\RelV v u/\D.rt v H'
def PE(X:Cx)(e:Expr)(t:TE):Prop:=
 ∀(pins:List (Addr×Obj)) (s:Shared) (σ:St) (H:Hp) (Q:VK),Inv X pins σ H s->t σ H Q->wpAny (model X.prog X.w) X.A (eval e X.env) (EP X pins σ Q) X.xe s
def PT(X:Cx)(e:Expr)(t:TT):Prop:=
 ∀(pins:List (Addr×Obj)) (s:Shared) (σ:St) (H:Hp) (Q:Bool->Hp->Prop),Inv X pins σ H s->t σ H Q->wpAny (model X.prog X.w) X.A (isTrue e X.env (eval e X.env)) (TP X pins σ Q) X.xe s
def PW(X:Cx)(e:Expr)(t:TT):Prop:=
 ∀(whole:Sem Value)(pins:List (Addr×Obj)) (s:Shared) (σ:St) (H:Hp) (Q:Bool->Hp->Prop),Inv X pins σ H s->t σ H Q->wpAny (model X.prog X.w) X.A (isTrue e X.env whole) (TP X pins σ Q) X.xe s
theorem PW.pt{X:Cx}{e:Expr}{t:TT}(h:PW X e t):PT X e t:=h _
def PA(X:Cx)(es:List Expr)(t:TA):Prop:=
 ∀(pos:Pos)(pins:List (Addr×Obj)) (s:Shared) (σ:St) (H:Hp) (Q:List V->Hp->Prop),Inv X pins σ H s->t σ H Q->wpAny (model X.prog X.w) X.A (spliced (backTo pos (starEach es X.env))) (AP X pins σ Q) X.xe s
def PS(X:Cx)(st:Stmt)(t:TS):Prop:=
 ∀(pins:List (Addr×Obj)) (s:Shared) (σ:St) (H:Hp) (D:cY),Inv X pins σ H s->t D σ H->wpAny (model X.prog X.w) X.A (exec st X.env) (SP X pins D) X.xe s
def PSs(X:Cx)(st:List Stmt)(t:TS):Prop:=
 ∀(pins:List (Addr×Obj)) (s:Shared) (σ:St) (H:Hp) (D:cY),Inv X pins σ H s->t D σ H->wpAny (model X.prog X.w) X.A (execs st X.env) (SP X pins D) X.xe s
theorem thn{α:Type}{t:Sem α}{Q Q':α->Shared->Prop}{M:Model}{A:Around}{E:Value->Shared->Prop}{s:Shared}(h:wpAny M A t Q E s)(hQ:∀a s,Q a s->Q' a s):wpAny M A t Q' E s:=ij h hQ fun _ _ x=>x
end L2
namespace L2
variable {u:Value} {x:Str}
section
variable {X:Cx}
theorem bin{a b:Expr}{ta tb:TE}(ha:PE X a ta)(hb:PE X b tb){pins:List (Addr×Obj)}{s:Shared}{σ:St}{H:Hp}{R:V->V->Hp->Prop}(I:Inv X pins σ H s)(h:ta σ H fun x H1=>tb σ H1 fun y H2=>R x y H2)
  {α:Type} {Q:α->Shared->Prop} {f:Value->Value->Sem α}
  (hf:∀v u s2 x y H2,Inv X pins σ H2 s2->RelV x v->RelV y u->R x y H2->wpAny (model X.prog X.w) X.A (f v u) Q X.xe s2) :
  wpAny (model X.prog X.w) X.A (eval a X.env) (fun v s₁=>wpAny (model X.prog X.w) X.A (eval b X.env) (fun u s₂=>wpAny (model X.prog X.w) X.A (f v u) Q X.xe s₂) X.xe s₁) X.xe s:=by
 refine thn (ha pins s σ H _ I h) fun v s1 hhx=>?_;obtain ⟨x,H1,I1,r1,q1⟩:=hhx;refine thn (hb pins s1 σ H1 _ I1 q1) fun u s2 hhx=>?_;obtain ⟨y,H2,I2,r2,q2⟩:=hhx;exact hf v u s2 x y H2 I2 r1 r2 q2
def GW(i:Nat):TE:=fun σ H Q=>∃v,σ[i]?=some (some v)/\Q v H
def tC(v:V):TE:=fun _ H Q=>Q v H
theorem Fb{i:Nat}{pos:Pos}(hN:X.N[i]?=some x)(hv:Vis X.env.scope x)(hd:(x==("__debug__":Str))=false:=by decide) (hcd:(x==("__classdict__":Str))=false:=by decide):PE X (.Name x pos) (GW i):=by
 intro pins s σ H Q I h;obtain ⟨v,e,h⟩:=h;obtain ⟨m,hn,hl⟩:=I.loc;obtain ⟨u,r,l⟩:=hl i x v hN e hv;have fin:EP X pins σ Q u s:=zAA v H I r h
 rcases l with ⟨hk,hm⟩ | ⟨hk,c,hc,hcell⟩
 ·exact wpAny_Name (wpAny_loadName_local I.ok.kind hk hn hm fin) hd
 ·rcases hk with hk | hk
  ·exact wpAny_Name (wpAny_loadName_cell I.ok.kind hk hc hcell fin) hd
  ·exact wpAny_Name (wpAny_loadName_free I.ok.kind hk hc hcell fin hcd) hd
theorem yM{i j pos}:PE X (.Constant (.int i) j pos) (tC (.int i)):=fun _ _ _ H _ I h=>wpAny_Constant_int (zAA (.int i) H (I.tok _) ⟨_,rfl⟩ h)
theorem CY{b j pos}:PE X (.Constant (.bool b) j pos) (tC (.bl b)):=fun _ _ _ H _ I h=>Constant_bool (zAA (.bl b) H I rfl h)
theorem yP{j pos}:PE X (.Constant .none j pos) (tC .non):=fun _ _ _ H _ I h=>Constant_none (zAA .non H I rfl h)
theorem yQ{x j pos}:PE X (.Constant (.str x) j pos) (tC (.str x)):=fun _ _ _ H _ I h=>Calls.Constant_str (zAA (.str x) H (I.tok _) ⟨_,rfl⟩ h)
def Gl(X:Cx)(x:Str):Prop:=X.env.kindOf x=some .globalImplicit
theorem gW{E:Value->Shared->Prop}{pins:List (Addr×Obj)}{s:Shared}{σ:St}{H:Hp}{pos:Pos}{Q:Value->Shared->Prop}(I:Inv X pins σ H s)(hg:Gl X x)(hm:X.mg x=some u)(h:Q u s)
 (hd:(x==("__debug__":Str))=false:=by decide):wpAny (model X.prog X.w) X.A (eval (.Name x pos) X.env) Q E s:=
 Calls.Name_function_global I.ok.kind hg (Calls.loadGlobal_global (by rw [I.ok.glob];exact I.mod.glob.keeps I.bk) hm h) hd
theorem dP{E:Value->Shared->Prop}{pins:List (Addr×Obj)}{s:Shared}{σ:St}{H:Hp}{pos:Pos}{Q:Value->Shared->Prop}(I:Inv X pins σ H s)(hg:Gl X x)(hm:X.mg x=none)(hv:bootBuiltins x=some u)(h:Q u s)
 (hn:x≠"__name__":=by decide) (hd:(x==("__debug__":Str))=false:=by decide):wpAny (model X.prog X.w) X.A (eval (.Name x pos) X.env) Q E s:=by
 obtain ⟨mb,h1,h2⟩:=I.mod.blt;exact Calls.Name_function_global I.ok.kind hg (Calls.loadGlobal_builtin (by rw [I.ok.glob];exact I.mod.glob.keeps I.bk) hm (by rw [I.ok.blt];exact h1.keeps I.bk) ((h2 x hn).trans hv) h) hd
theorem C5{v:V}{pos:Pos}(hg:Gl X x)(hm:X.mg x=some u)(r:RelV v u)(hd:(x==("__debug__":Str))=false:=by decide):PE X (.Name x pos) (tC v):=
 fun _ _ _ H _ I h=>gW I hg hm (zAA v H I r h) hd
theorem C3{v:V}{pos:Pos}(hg:Gl X x)(hm:X.mg x=none)(hv:bootBuiltins x=some u)(r:RelV v u)(hn:x≠"__name__":=by decide) (hd:(x==("__debug__":Str))=false:=by decide):PE X (.Name x pos) (tC v):=
 fun _ _ _ H _ I h=>dP I hg hm hv (zAA v H I r h) hn hd
variable {a b:Expr} {ta tb:TE} {pos:Pos}
def PC(X:Cx)(op:CmpOp)(a b:Expr)(t:TE):Prop:=
 ∀(pins:List (Addr×Obj)) (s:Shared) (σ:St) (H:Hp) (Q:VK),Inv X pins σ H s->t σ H Q->
  wpAny (model X.prog X.w) X.A (eval a X.env) (fun v s₁=>wpAny (model X.prog X.w) X.A (eval b X.env) (fun u s₂=>wpAny (model X.prog X.w) X.A (compareOp op v u) (EP X pins σ Q) X.xe s₂) X.xe s₁) X.xe s
theorem oY(b:Expr){op:CmpOp}(h:op≠.In)(h2:op≠.NotIn):behindInMarks op b=false:=by
 have e1:(op==CmpOp.In)=false:=by cases op<;>first | rfl | exact absurd rfl h
 have e2:(op==CmpOp.NotIn)=false:=by cases op<;>first | rfl | exact absurd rfl h2
 cases b<;>simp [behindInMarks,e1,e2]
def tB(t:TE):TT:=fun σ H Q=>t σ H fun x H1=>∃c,x=.bl c/\Q c H1
variable {tA tB':TT} {dW:List Expr}
def IY(t u:TT):TT:=fun σ H Q=>t σ H fun c H1=>if c=true then u σ H1 Q else Q false H1
def tOr(t u:TT):TT:=fun σ H Q=>t σ H fun c H1=>if c=true then Q true H1 else u σ H1 Q
def J5(t:TT):TT:=fun σ H Q=>t σ H fun c H1=>Q (! c) H1
def DX(ta tb:TE):TE:=fun σ H Q=>ta σ H fun x H1=>∃c,x=.bl c/\if c=true then tb σ H1 Q else Q (.bl false) H1
def J6(ta tb:TE):TE:=fun σ H Q=>ta σ H fun x H1=>∃c,x=.bl c/\if c=true then Q (.bl true) H1 else tb σ H1 Q
def E3(ta:TE):TE:=fun σ H Q=>ta σ H fun x H1=>∃c,x=.bl c/\Q (.bl (! c)) H1
def tIf(t:TT)(ta tb:TE):TE:=fun σ H Q=>t σ H fun c H1=>if c=true then ta σ H1 Q else tb σ H1 Q
end
end L2
namespace L2
def SqL(K:W.Frag)(H:Hp)(a:Addr)(xs:List V):Prop:=
 Rd H a (.lst xs)\/
  ∃(o:Obj)(its:Array Value)(n:Nat),K.lookup a=some o/\o.cls=.type "list"/\o.dict=none/\o.data=.seq its n/\its.size<=sizeLine/\Vals xs its.toList
def SqT(K:W.Frag)(H:Hp)(a:Addr)(xs:List V):Prop:=
 Rd H a (.tup xs)\/
  ∃(o:Obj)(its:Array Value)(n:Nat),K.lookup a=some o/\o.cls=.type "tuple"/\o.data=.seq its n/\its.size<=sizeLine/\Vals xs its.toList
def Jn:Value->Option V
 | .none=>some .non
 | .bool b=>some (.bl b)
 | .int i _=>some (.int i)
 | .str x _=>some (.str x)
 | .bytes b _=>some (.byt b)
 | .float b _=>some (.flt b)
 | .ref a=>some (.ref a)
 | .type n=>some (.ty n)
 |_=>none
theorem RelV.abs{x:V}{u:Value}(r:RelV x u):Jn u=some x:=by
 cases x with
 |non=>cases r;rfl
 |bl _=>cases r;rfl
 |int _=>obtain ⟨t,rfl⟩:=r;rfl
 |str _=>obtain ⟨t,rfl⟩:=r;rfl
 |byt _=>obtain ⟨t,rfl⟩:=r;rfl
 |flt _=>obtain ⟨t,rfl⟩:=r;rfl
 |ref _=>cases r;rfl
 |ty _=>cases r;rfl
theorem RelV.inj{x y:V}{u:Value}(r:RelV x u)(q:RelV y u):x=y:=Option.some.inj (r.abs.symm.trans q.abs)
theorem Vals.inj:∀{xs ys:List V} {us:List Value},Vals xs us->Vals ys us->xs=ys
 |_,_,_,.nil,.nil=>rfl
 |_,_,_,.cons r t,.cons r' t'=>by rw [r.inj r',Vals.inj t t']
section
variable {X:Cx} {pins:List (Addr×Obj)} {σ:St} {H:Hp} {s:Shared} {a:Addr} {xs ys:List V}
theorem SqL.of{K:W.Frag}(h:H a=some (.lst xs)):SqL K H a xs:=.inl (.inl h)
theorem SqT.of{K:W.Frag}(h:H a=some (.tup xs)):SqT K H a xs:=.inl (.inl h)
theorem Inv.list(I:Inv X pins σ H s)(h:SqL X.K H a xs):∃its:List Value,Vals xs its/\PlainL s.heap a its.toArray/\xs.length<=sizeLine:=by
 rcases h with h | ⟨o,its,n,hk,hc,hd,hs,hz,r⟩
 ·obtain ⟨z,its,n,r,e⟩:=h.ok I.hok;exact zAC its r (zAD _ n e rfl rfl rfl) z
 ·refine zAC its.toList r (zAD o n (I.kIn a o hk) hc hd (by simpa using hs)) ?_;have e:=r.length;simp only [Array.length_toList] at e;omega
theorem Inv.tuple(I:Inv X pins σ H s)(h:SqT X.K H a xs):∃its:List Value,Vals xs its/\IsTup s.heap a its.toArray/\xs.length<=sizeLine:=by
 rcases h with h | ⟨o,its,n,hk,hc,hs,hz,r⟩
 ·obtain ⟨z,its,r,p⟩:=h.ok I.hok;exact zAC its r p z
 ·refine zAC its.toList r (zAC o (I.kIn a o hk) hc ⟨n,by simpa using hs⟩) ?_;have e:=r.length;simp only [Array.length_toList] at e;omega
theorem Inv.list_inj(I:Inv X pins σ H s)(h:SqL X.K H a xs)(h':SqL X.K H a ys):xs=ys:=by
 obtain ⟨its,r,⟨o,n,e,_,_,d⟩,_⟩:=I.list h;obtain ⟨its',r',⟨o',n',e',_,_,d'⟩,_⟩:=I.list h';rw [e] at e';cases e';rw [d] at d';injection d' with d1 _;have:its=its':=by simpa using congrArg Array.toList d1
 subst this;exact r.inj r'
theorem Inv.tuple_inj(I:Inv X pins σ H s)(h:SqT X.K H a xs)(h':SqT X.K H a ys):xs=ys:=by
 obtain ⟨its,r,⟨o,e,_,n,d⟩,_⟩:=I.tuple h;obtain ⟨its',r',⟨o',e',_,n',d'⟩,_⟩:=I.tuple h';rw [e] at e';cases e';rw [d] at d';injection d' with d1 _;have:its=its':=by simpa using congrArg Array.toList d1
 subst this;exact r.inj r'
end
abbrev Cx.wish (X:Cx) (E:Value->Shared->Prop):Cx:={X with xe:=E}
abbrev Cx.nox (X:Cx):Cx:=X.wish fun _ _=>False
theorem Cx.Ok.wish{X:Cx}(ok:X.Ok)(E:Value->Shared->Prop):(X.wish E).Ok:=
 ⟨ok.mod,ok.kind,ok.glob,ok.blt,ok.above,ok.inj,ok.has,ok.cab,ok.hd,ok.frames,ok.stk,ok.exf,ok.bs,ok.bsz,ok.noex,ok.exfs,ok.funs,ok.frf⟩
theorem Cx.Ok.unwish{X:Cx}{E:Value->Shared->Prop}(ok:(X.wish E).Ok):X.Ok:=
 ⟨ok.mod,ok.kind,ok.glob,ok.blt,ok.above,ok.inj,ok.has,ok.cab,ok.hd,ok.frames,ok.stk,ok.exf,ok.bs,ok.bsz,ok.noex,ok.exfs,ok.funs,ok.frf⟩
section
variable {X:Cx} {pins:List (Addr×Obj)} {σ:St} {H:Hp} {s:Shared} {E:Value->Shared->Prop}
theorem Inv.wish(I:Inv X pins σ H s)(E:Value->Shared->Prop):Inv (X.wish E) pins σ H s:=⟨I.ok.wish E,I.os,I.bare,I.base,I.loc,I.cell,I.free,I.freeC,I.pin,I.hok,I.len⟩
theorem Inv.unwish(I:Inv (X.wish E) pins σ H s):Inv X pins σ H s:=⟨I.ok.unwish,I.os,I.bare,I.base,I.loc,I.cell,I.free,I.freeC,I.pin,I.hok,I.len⟩
theorem SP.unwish{D:cY}{f:Flow}{s':Shared}(h:SP (X.wish E) pins D f s'):SP X pins D f s':=by
 cases f with
 |next=>obtain ⟨σ',H',I,q⟩:=h;exact zAE σ' H' I.unwish q
 |brk=>obtain ⟨σ',H',I,q⟩:=h;exact zAE σ' H' I.unwish q
 |cont=>obtain ⟨σ',H',I,q⟩:=h;exact zAE σ' H' I.unwish q
 |ret u=>obtain ⟨v,σ',H',I,r,q⟩:=h;exact zAN v σ' H' I.unwish r q
theorem PSs.nox{st:List Stmt}{t:TS}(h:PSs X.nox st t):PSs X st t:=fun pins s σ H D I hw=>ij (h pins s σ H D (I.wish _) hw) (fun _ _ q=>q.unwish) fun _ _ z=>False.elim z
end
section
variable {X:Cx} {st:Stmt} {dW:List Stmt} {t u:TS} {e:Expr} {te:TE} {pos:Pos}
def E2:TS:=fun D σ H=>D.nx σ H
def GU(t u:TS):TS:=fun D σ H=>t {D with nx:=u D} σ H
def DY:TS:=fun D σ H=>D.ct σ H
theorem Inv.quiet{pins:List (Addr×Obj)}{σ:St}{H:Hp}{s:Shared}(I:Inv X pins σ H s):interactive X.env=false:=by simp [interactive,I.ok.kind]
def E1(te:TE):TS:=fun D σ H=>te σ H fun _ H1=>D.nx σ H1
def A8(te:TE):TS:=fun D σ H=>te σ H D.rt
def GT(c:TT)(t u:TS):TS:=fun D σ H=>c σ H fun b H1=>if b=true then t D σ H1 else u D σ H1
end
abbrev TG:=V->St->Hp->(St->Hp->Prop)->Prop
abbrev TGs:=List V->St->Hp->(St->Hp->Prop)->Prop
def PG(X:Cx)(target:Expr)(t:TG):Prop:=
 ∀(pins:List (Addr×Obj)) (s:Shared) (σ:St) (H:Hp) (v:V) (u:Value) (Q:St->Hp->Prop),Inv X pins σ H s->RelV v u->t v σ H Q->
  wpAny (model X.prog X.w) X.A (assign target X.env u) (fun _ s'=>∃σ' H',Inv X pins σ' H' s'/\Q σ' H') X.xe s
def PGs(X:Cx)(ts:List Expr)(t:TGs):Prop:=
 ∀(pins:List (Addr×Obj)) (s:Shared) (σ:St) (H:Hp) (vs:List V) (us:List Value) (Q:St->Hp->Prop),Inv X pins σ H s->Vals vs us->t vs σ H Q->
  wpAny (model X.prog X.w) X.A (assignInOrder ((assignEach ts X.env).map (·.2)) us) (fun _ s'=>∃σ' H',Inv X pins σ' H' s'/\Q σ' H') X.xe s
abbrev xm:=V->V->V->Hp->(Hp->Prop)->Prop
def Em(X:Cx)(t:xm):Prop:=
 ∀(pins:List (Addr×Obj)) (s:Shared) (σ:St) (H:Hp) (o i v:V) (ov iv u:Value) (Q:Hp->Prop),Inv X pins σ H s->RelV o ov->RelV i iv->RelV v u->t o i v H Q->
  wpAny (model X.prog X.w) X.A (setItem ov iv u) (fun _ s'=>∃H',Inv X pins σ H' s'/\Q H') X.xe s
section
variable {X:Cx} {pos:Pos}
def bD(i:Nat):TG:=fun v σ H Q=>Q (σ.set i (some v)) H
theorem ui{i:Nat}{x:Str}(hN:X.N.Nodup)(hi:X.N[i]?=some x)(hx:Loc X.env.scope x)(hf:X.fn x=true\/X.env.scope.names.lookup x=some .local:=by first | exact .inl rfl | exact .inr rfl | assumption):PG X (.Name x pos) (bD i):=by intro pins s σ H v u Q I r h;exact wpAny_assign_Name (pY I hN hi hx r (fun s' I'=>zAE _ H I' h) hf)
def Hx:TGs:=fun vs σ H Q=>vs=[]/\Q σ H
def CT(t:TG)(u:TGs):TGs:=fun vs σ H Q=>∃v r,vs=v::r/\t v σ H fun σ' H'=>u r σ' H' Q
def Hy(K:W.Frag)(n:Nat)(t:TGs):TG:=fun v σ H Q=>∃a xs,v=.ref a/\SqT K H a xs/\xs.length=n/\t xs σ H Q
def ED(to ti:TE)(t:xm):TG:=fun v σ H Q=>to σ H fun o H1=>ti σ H1 fun i H2=>t o i v H2 fun H3=>Q σ H3
theorem Fc{o i:Expr}{to ti:TE}{t:xm}(ho:PE X o to)(hi:PE X i ti)(hs:Em X t)
  (ha:∀v,assign (.Subscript o i pos) X.env v=(do
   let ov <- holding [v] (eval o X.env)
   let iv <- holding [v,ov] (eval i X.env)
   standAt pos
   holding [v,ov,iv] (setItem ov iv v)
   release [v,ov,iv] []):=by intro _;rfl):PG X (.Subscript o i pos) (ED to ti t):=by
 intro pins s σ H v u Q I r h;rw [ha];refine zq0 (kD (thn (ho pins s σ H _ I h) fun ov s1 hhx=>?_));obtain ⟨x,H1,I1,r1,q1⟩:=hhx;refine zq0 (kD (thn (hi pins s1 σ H1 _ I1 q1) fun iv s2 hhx=>?_));obtain ⟨y,H2,I2,r2,q2⟩:=hhx;refine zq0 (wpAny_standAt (zq0 (kD (thn (hs pins s2 σ H2 x y v ov iv u _ I2 r1 r2 r q2) fun _ s3 hhx=>?_))));obtain ⟨H3,I3,q3⟩:=hhx;exact wpAny_release (zAE σ H3 I3 q3)
def CC(te:TE)(g:TG):TS:=fun D σ H=>te σ H fun x H1=>g x σ H1 D.nx
theorem Fi{i:Nat}{x:Str}{e:Expr}{te:TE}{pos':Pos}(hN:X.N.Nodup)(hi:X.N[i]?=some x)(hx:Loc X.env.scope x)(he:PE X e te)(hs:swapsWith e (some (.Name x pos')) pos.line X.env=pure false:=by rfl)(hf:X.fn x=true\/X.env.scope.names.lookup x=some .local:=by first | exact .inl rfl | exact .inr rfl | assumption):
  PS X (.Assign [.Name x pos'] e pos) (CC te (bD i)):=by
 intro pins s σ H D I h;refine wpAny_Assign_Name (thn (he pins s σ H _ I h) fun v s1 hhx=>?_) hs;obtain ⟨y,H1,I1,r1,q1⟩:=hhx;exact pY I1 hN hi hx r1 (fun s2 I2=>zAE _ H1 I2 q1) hf
end
section
variable {X:Cx} {pos:Pos}
def Ab(c:TT)(tb:TS):TS:=fun D σ H=>∃W:Nat->St->Hp->Prop,(∃m,W m σ H)/\∀m σ H,W m σ H->
 c σ H fun b H1=>if b=true then ∃N:St->Hp->Prop,(∀σ' H',N σ' H'->∃m',m'<m/\W m' σ' H')/\tb {D with nx:=N,ct:=N,bk:=D.nx} σ H1 else D.nx σ H1
end
structure It where
 go:Nat->Hp->Prop
 yld:Nat->Hp->V->Hp->Prop
 stop:Nat->Hp->Prop
def iY(X:Cx)(pins:List (Addr×Obj))(H:Hp)(b:Addr):Prop:=
 H b=none/\b≠X.env.locals/\b∉X.fs/\(b∈X.ex\/X.s₀.heap.objs.size<=b)/\(∀x c,X.env.cells.lookup x=some c->c≠b)/\∀p∈X.pn++pins,p.1≠b
theorem Inv.fpOk{X:Cx}{pins:List (Addr×Obj)}{σ:St}{H H':Hp}{s:Shared}{b:Addr}(I:Inv X pins σ H s)(hb:s.heap.objs.size<=b)(hn:H' b=none):iY X pins H' b:=by
 refine zAV hn (sH (fh I.lt hb)) (I.nofs hb) (.inr (dX I.sz hb)) (fun x c e z=>?_) fun p hp z=>?_
 ·obtain ⟨v,q⟩:=I.cell x c e;exact absurd (fh q.lt (by rw [z];exact hb)) (qD _)
 ·exact absurd (fh (bH (I.pin p hp).1) (by rw [z];exact hb)) (qD _)
structure kI(P:Program)(w:World)(K:W.Frag)(tg:Expr)(J:It)(fp:List Addr)(it:Addr)(tn:Nat->Heap->Prop):Prop where
 mem:it∈fp
 obj:∀i h,tn i h->∀b∈fp,∃o,h.get? b=some o/\∀v,o.data≠.cell v
 keep:∀i h h',tn i h->(∀b∈fp,∀o,h.get? b=some o->h'.get? b=some o)->tn i h'
 item:∀(X:Cx),X.prog=P->X.w=w->X.K=K->X.calm=true->∀(i:Nat)(pins:List (Addr×Obj)) (s:Shared) (σ:St) (H:Hp) (E:Value->Shared->Prop),Inv X pins σ H s->(∀b∈fp,iY X pins H b)->tn i s.heap->J.go i H->
  wpAny (model P w) X.A (pyNext (.ref it)) (fun r s1=>∃u,r=some u/\
   wpAny (model P w) X.A (letOwnedTupleGo tg (.ref it) u) (fun _ s2=>∃x H',Inv X pins σ H' s2/\RelV x u/\J.yld i H x H'/\tn (i+1) s2.heap/\∀b∈fp,H' b=none) E s1) E s
 done:∀(X:Cx),X.prog=P->X.w=w->X.K=K->X.calm=true->∀(i:Nat)(pins:List (Addr×Obj)) (s:Shared) (σ:St) (H:Hp) (E:Value->Shared->Prop),Inv X pins σ H s->(∀b∈fp,iY X pins H b)->tn i s.heap->J.stop i H->
  wpAny (model P w) X.A (pyNext (.ref it)) (fun r s1=>r=none/\Inv X pins σ H s1) E s
 self:∀(A:Around)(i:Nat)(s:Shared)(Q:Value->Shared->Prop)(E:Value->Shared->Prop),tn i s.heap->Q (.ref it) s->wpAny (model P w) A (pyIter (.ref it)) Q E s
abbrev TI:=St->Hp->(It->Hp->Prop)->Prop
variable {P:Program}
def PIE(X:Cx)(pins:List (Addr×Obj))(σ:St)(tg:Expr)(R:It->Hp->Prop)(itv:Value)(s2:Shared):Prop:=
 ∃(it:Addr)(fp:List Addr)(tn:Nat->Heap->Prop)(J:It)(H':Hp),itv=.ref it/\Inv X pins σ H' s2/\kI X.prog X.w X.K tg J fp it tn/\tn 0 s2.heap/\(∀b∈fp,iY X pins H' b)/\R J H'
def PI(X:Cx)(tg iter:Expr)(wi:TI):Prop:=
 ∀(pins:List (Addr×Obj)) (s:Shared) (σ:St) (H:Hp) (R:It->Hp->Prop),Inv X pins σ H s->wi σ H R->
  wpAny (model X.prog X.w) X.A (eval iter X.env) (fun v s1=>wpAny (model X.prog X.w) X.A (pyIter v) (PIE X pins σ tg R) X.xe s1) X.xe s
theorem tT{M:Model}{A:Around}{E:Value->Shared->Prop}{s:Shared}{tg:Expr}{it:Addr}{u:Value}{o:Obj}{n:String}{vs:Array Value}{Q:Unit->Shared->Prop}(ho:s.heap.get? it=some o)(hc:o.cls=.type n)(hd:o.data=.fields vs)
 (hn:["enumerate","zip","dict_itemiterator","dict_reverseitemiterator","odict_iterator","itertools.zip_longest","itertools.pairwise"].contains n=false) (hQ:Q () s):wpAny M A (letOwnedTupleGo tg (.ref it) u) Q E s:=by
  unfold letOwnedTupleGo
  cases tg<;>first
    |exact zq3 hQ
    | (cases u<;>first
        |exact zq3 hQ
        | (refine zq0 (wpAny_load ho ?_)
           rw [hc,hd];show wpAny M A (if (["enumerate","zip","dict_itemiterator","dict_reverseitemiterator","odict_iterator","itertools.zip_longest","itertools.pairwise"].contains n&&vs[0]?==some (rawInt _))=true then _ else _) Q E s;rw [zq1 (by intro h;rw [hn,Bool.false_and] at h;cases h)];exact zq3 hQ))
def Itl(K:W.Frag)(a:Addr):It:=
 ⟨fun i H=>∃xs x,SqL K H a xs/\xs[i]?=some x,fun i H x H'=>H'=H/\∀xs,SqL K H a xs->xs[i]?=some x,fun i H=>∃xs,SqL K H a xs/\xs.length<=i⟩
def Itt(K:W.Frag)(a:Addr):It:=
 ⟨fun i H=>∃xs x,SqT K H a xs/\xs[i]?=some x,fun i H x H'=>H'=H/\∀xs,SqT K H a xs->xs[i]?=some x,fun i H=>∃xs,SqT K H a xs/\xs.length<=i⟩
def Itr(lo:Int)(n:Nat):It:=⟨fun i _=>i<n,fun i H x H'=>H'=H/\x=.int (lo+i),fun i _=>n<=i⟩
theorem wQ{w:World}{K:W.Frag}{tg:Expr}(a it:Addr):kI P w K tg (Itl K a) [it] it (fun i h=>h.IsListIter it a i) where
 mem:=by simp
 obj:=fun i h st b hb=>by
  have e:b=it:=by simpa using hb
  subst e;obtain ⟨o,e,c,d⟩:=st;exact zn o e (fun v z=>by rw [d] at z;cases z)
 keep:=fun i h h' st k=>st.at fun o e=>k it Jll o e
 item:=by intro X hP hw hK hc i pins s σ H E I hf st hg;subst hP hw hK;obtain ⟨xs,x,hq,hx⟩:=hg;obtain ⟨its,rv,p,hz⟩:=I.list hq;obtain ⟨u,hu,ru⟩:=rv.get hx;obtain ⟨f0,f1,f2,f3,f4,f5⟩:=hf it Jll;refine wpAny_pyNext_list_item st p.isList (x:=u) (by simpa using hu) fun h' st' sb=>?_;have I1:Inv X pins σ H {s with heap:=h'}:=I.turned (t':=s.toks) (fun b o hb e=>(sb.2 b hb).trans e) f0 f1 f3 f4 f5;obtain ⟨o,e,c,d⟩:=id st';exact zn u rfl (tT (s:={s with heap:=h'}) e c d Jkm (zAP x H I1 ru ⟨rfl,fun ys hy=>by rw [I.list_inj hy hq];exact hx⟩ st' fun b hb=>(hf b hb).1))
 done:=by intro X hP hw hK hc i pins s σ H E I hf st hg;subst hP hw hK;obtain ⟨xs,hq,hx⟩:=hg;obtain ⟨its,rv,p,hz⟩:=I.list hq;obtain ⟨f0,f1,f2,f3,f4,f5⟩:=hf it Jll;have hl:=rv.length;exact wpAny_pyNext_list_end (I.ok.hd hc) st p.isList (by simp;omega) fun h' eb=>⟨rfl,I.turned (t':=s.toks) (fun b o hb e=>eb b o hb e) f0 f1 f3 f4 f5⟩
 self:=fun _ _ _ _ _ st h=>wpAny_pyIter_listiter st h
theorem su{w:World}{K:W.Frag}{tg:Expr}(a it:Addr):kI P w K tg (Itt K a) [it] it (fun i h=>h.IsTupleIter it a i) where
 mem:=by simp
 obj:=fun i h st b hb=>by
  have e:b=it:=by simpa using hb
  subst e;obtain ⟨o,e,c,d⟩:=st;exact zn o e (fun v z=>by rw [d] at z;cases z)
 keep:=fun i h h' st k=>st.at fun o e=>k it Jll o e
 item:=by intro X hP hw hK hc i pins s σ H E I hf st hg;subst hP hw hK;obtain ⟨xs,x,hq,hx⟩:=hg;obtain ⟨its,rv,p,hz⟩:=I.tuple hq;obtain ⟨u,hu,ru⟩:=rv.get hx;obtain ⟨f0,f1,f2,f3,f4,f5⟩:=hf it Jll;refine wpAny_pyNext_tuple_item st (show s.heap.IsTuple a its.toArray from p) (x:=u) (by simpa using hu) fun h' st' sb=>?_;have I1:Inv X pins σ H {s with heap:=h'}:=I.turned (t':=s.toks) (fun b o hb e=>(sb.2 b hb).trans e) f0 f1 f3 f4 f5;obtain ⟨o,e,c,d⟩:=id st';exact zn u rfl (tT (s:={s with heap:=h'}) e c d Jkm (zAP x H I1 ru ⟨rfl,fun ys hy=>by rw [I.tuple_inj hy hq];exact hx⟩ st' fun b hb=>(hf b hb).1))
 done:=by intro X hP hw hK hc i pins s σ H E I hf st hg;subst hP hw hK;obtain ⟨xs,hq,hx⟩:=hg;obtain ⟨its,rv,p,hz⟩:=I.tuple hq;obtain ⟨f0,f1,f2,f3,f4,f5⟩:=hf it Jll;have hl:=rv.length;exact wpAny_pyNext_tuple_end (I.ok.hd hc) st (show s.heap.IsTuple a its.toArray from p) (by simp;omega) fun h' eb=>⟨rfl,I.turned (t':=s.toks) (fun b o hb e=>eb b o hb e) f0 f1 f3 f4 f5⟩
 self:=fun _ _ _ _ _ st h=>wpAny_pyIter_tupleiter st h
theorem sr{w:World}{K:W.Frag}{tg:Expr}(it:Addr)(lo:Int)(n:Nat):kI P w K tg (Itr lo n) [it] it (fun i h=>IsRangeIter h it (lo+(i:Nat) * 1) ((n:Int)-(i:Nat)) 1) where
 mem:=by simp
 obj:=fun i h st b hb=>by
  have e:b=it:=by simpa using hb
  subst e;exact ⟨_,st,fun v z=>by
   have z':Data.fields _=Data.cell v:=z
   cases z'⟩
 keep:=fun i h h' st k=>k it Jll _ st
 item:=by intro X hP hw hK hc i pins s σ H E I hf st hg;subst hP hw hK;obtain ⟨f0,f1,f2,f3,f4,f5⟩:=hf it Jll;have W:=Walks.range (prog:=X.prog) (w:=X.w) (I.ok.hd hc) it lo 1 n;refine W.item i s _ _ hg st fun v h' tk hv st' kk=>?_;obtain ⟨t,rfl⟩:=hv;have I1:Inv X pins σ H {s with heap:=h',toks:=tk}:=I.turned (fun b o hb e=>kk b o (by simpa using hb) e) f0 f1 f3 f4 f5;refine zn _ rfl (tT (s:={s with heap:=h',toks:=tk}) (n:="range_iterator") st' rfl rfl Jkm (zAP (.int (lo+i)) H I1 ⟨t,?_⟩ ⟨rfl,rfl⟩ st' fun b hb=>(hf b hb).1));rw [Int.mul_one]
 done:=by intro X hP hw hK hc i pins s σ H E I hf st hg;subst hP hw hK;obtain ⟨f0,f1,f2,f3,f4,f5⟩:=hf it Jll;exact wpAny_pyNext_range_end (I.ok.hd hc) st (by have:n<=i:=hg;omega) fun h' eb=>⟨rfl,I.turned (t':=s.toks) (fun b o hb e=>eb b o hb e) f0 f1 f3 f4 f5⟩
 self:=fun _ _ _ _ _ st h=>wpAny_pyIter_rangeiter st h
end L2
namespace L2
variable {H:Hp} {g:TG} {pins:List (Addr×Obj)} {s:Shared} {σ:St}
section
variable {X:Cx} {tg:Expr}
def CU(K:W.Frag)(tl:TE):TI:=fun σ H R=>tl σ H fun x H1=>∃a,x=.ref a/\(∃xs,SqL K H1 a xs)/\R (Itl K a) H1
def HA(K:W.Frag)(tl:TE):TI:=fun σ H R=>tl σ H fun x H1=>∃a,x=.ref a/\(∃xs,SqT K H1 a xs)/\R (Itt K a) H1
theorem zx{R:It->Hp->Prop}{E:Value->Shared->Prop}{lo hi:Int}{t u v:Tok}{tk:Nat}(I:Inv X pins σ H s)(h1:-(2 ^ 62)<=lo)(h2:lo<2 ^ 62)(h3:-(2 ^ 62)<=hi)(h4:hi<2 ^ 62)
 (q:R (Itr lo (hi-lo).toNat) H):wpAny (model X.prog X.w) X.A (pyIter (.ref s.heap.objs.size)) (PIE X pins σ tg R) E {s with heap:=s.heap.push {cls:=.type "range",data:=.fields #[.int lo t,.int hi u,.int 1 v]},toks:=tk}:=by
 refine wpAny_pyIter_range (IsRange.new ..) (small_one h1 h2 h3 h4) ?_;have I1:Inv X pins σ H {s with heap:=s.heap.push {cls:=.type "range",data:=.fields #[.int lo t,.int hi u,.int 1 v]},toks:=tk}:=I.kept fun b o e=>bO _ e;refine ⟨(s.heap.push {cls:=.type "range",data:=.fields #[.int lo t,.int hi u,.int 1 v]}).objs.size,[(s.heap.push {cls:=.type "range",data:=.fields #[.int lo t,.int hi u,.int 1 v]}).objs.size],_,_,H,rfl,
  I1.kept (t':=tk) fun b o e=>bO _ e,sr _ lo (hi-lo).toNat,?_,fun b hb=>?_,q⟩
 ·have e1:lo+((0:Nat):Int) * 1=lo:=by simp
  have e2:(((hi-lo).toNat:Nat):Int)-((0:Nat):Int)=Builtin.Range.rangeSize lo hi 1:=by rw [rangeSize_one];split<;>omega
  show IsRangeIter _ _ (lo+((0:Nat):Int) * 1) ((((hi-lo).toNat:Nat):Int)-((0:Nat):Int)) 1;rw [e1,e2];exact cF _ rfl
 ·have e:b=(s.heap.push {cls:=.type "range",data:=.fields #[.int lo t,.int hi u,.int 1 v]}).objs.size:=by simpa using hb
  subst e;exact I1.fpOk (zq6 _) (I1.hok.fresh (zq6 _))
def CV(ta:TA):TI:=fun σ H R=>ta σ H fun vs H1=>∃j:Int,vs=[.int j]/\-(2 ^ 62)<=j/\j<2 ^ 62/\R (Itr 0 j.toNat) H1
def GS(wi:TI)(g:TG)(tb:TS):TS:=fun D σ H=>wi σ H fun J H1=>∃W:Nat->Nat->St->Hp->Prop,(∃m,W 0 m σ H1)/\∀i m σ H,W i m σ H->
 (J.stop i H/\D.nx σ H)\/(J.go i H/\∃N:St->Hp->Prop,(∀σ' H',N σ' H'->∃m',m'<m/\W (i+1) m' σ' H')/\∀x H',J.yld i H x H'->g x σ H' fun σ2 H2=>tb {D with nx:=N,ct:=N,bk:=D.nx} σ2 H2)
def gC(fp:List Addr)(h:Heap):List (Addr×Obj):=fp.filterMap fun b=>(h.get? b).map fun o=>(b,o)
theorem cI{fp:List Addr}{h:Heap}{b:Addr}{o:Obj}(hb:b∈fp)(e:h.get? b=some o):(b,o)∈gC fp h:=List.mem_filterMap.mpr (zn b hb (by rw [e];rfl))
theorem we{fp:List Addr}{h:Heap}{p:Addr×Obj}(hp:p∈gC fp h):p.1∈fp/\h.get? p.1=some p.2:=by
 obtain ⟨b,hb,e⟩:=List.mem_filterMap.mp hp
 cases q:h.get? b with
 |none=>rw [q] at e;cases e
 |some o=>rw [q] at e;have e':(b,o)=p:=Option.some.inj e;subst e';exact ⟨hb,q⟩
theorem Inv.pinned{fp:List Addr}(I:Inv X pins σ H s)(hf:∀b∈fp,iY X pins H b)(ho:∀b∈fp,∃o,s.heap.get? b=some o/\∀v,o.data≠.cell v):Inv X (pins++gC fp s.heap) σ H s:=
 I.pins_of fun p hp=>(zq20.mp hp).elim (fun z=>I.pin p (cW _ z)) fun z=>by obtain ⟨hb,e⟩:=we z;obtain ⟨f0,f1,f2,_⟩:=hf p.1 hb;obtain ⟨o,e',d⟩:=ho p.1 hb;rw [e] at e';cases e';exact zAJ e f0 f1 f2 d
theorem Inv.unpinned{pl:List (Addr×Obj)}(I:Inv X (pins++pl) σ H s):Inv X pins σ H s:=I.pins_of fun p hp=>I.pin p (cW _ (fk _ hp))
theorem Fh{iter:Expr}{body:List Stmt}{wi:TI}{tb:TS}{pos:Pos}(hp:PassesOwn (model X.prog X.w) X.A X.env X.xe)(hc:X.calm=true)(hi:PI X tg iter wi)(hg:PG X tg g)(hb:PSs X body tb)
 (hs:∀x,foldedSetIterable iter X.env x=pure x:=by intro _;rfl):PS X (.For tg iter body [] pos) (GS wi g tb):=by
 intro pins s σ H D I h;refine wpAny_For (thn (hi pins s σ H _ I h) fun v s1 h1=>thn h1 fun itv s2 h2=>?_) hs;obtain ⟨it,fp,tn,J,H2,e,I2,T,st2,f2,W,⟨m0,w0⟩,turn⟩:=h2;subst e;have stat:∀{H':Hp},(∀b∈fp,H' b=none)->∀b∈fp,iY X pins H' b:=fun hn b hb=>⟨hn b hb,(f2 b hb).2⟩
 refine codeAny_forLoop_any (fun n s'=>∃i σ' H',Inv X pins σ' H' s'/\tn i s'.heap/\(∀b∈fp,H' b=none)/\W i n σ' H') ?_ m0 (zAO 0 σ H2 I2 st2 (fun b hb=>(f2 b hb).1) w0);rintro n s3 ⟨i,σ3,H3,I3,st3,fr3,w3⟩;rcases turn i n σ3 H3 w3 with ⟨stop,qn⟩ | ⟨go,N,hN,step⟩
 ·refine wpAny_passesOwn hp (thn (T.done X rfl rfl rfl hc i pins s3 σ3 H3 X.xe I3 (stat fr3) st3 stop) fun r s4 ⟨hr,I4⟩=>?_);subst hr;exact wpAny_execs_nil (zAE σ3 H3 I4 qn)
 ·refine wpAny_passesOwn hp (thn (T.item X rfl rfl rfl hc i pins s3 σ3 H3 X.xe I3 (stat fr3) st3 go) fun r s4 ⟨u,hr,h4⟩=>?_);subst hr;refine wpAny_passesOwn hp (thn h4 fun _ s5 hhx=>?_);obtain ⟨x,H5,I5,r5,y5,st5,fr5⟩:=hhx;have I5':=I5.pinned (stat fr5) (T.obj _ _ st5);refine wpAny_passesOwn hp (thn (hg _ s5 σ3 H5 x u _ I5' r5 (step x H5 y5)) fun _ s6 hhx=>?_);obtain ⟨σ6,H6,I6,q6⟩:=hhx;refine wpAny_passesOwn hp (thn (hb _ s6 σ6 H6 _ I6 q6) fun f s7 q7=>?_);have again:∀{σ7:St} {H7:Hp},Inv X (pins++gC fp s5.heap) σ7 H7 s7->N σ7 H7->∃m,m<n/\∃i σ' H',Inv X pins σ' H' s7/\tn i s7.heap/\(∀b∈fp,H' b=none)/\W i m σ' H':=fun {σ7 H7} I7 n7=>by obtain ⟨m',hm,w7⟩:=hN σ7 H7 n7;refine zn m' hm (zAO (i+1) σ7 H7 I7.unpinned (T.keep _ _ _ st5 fun b hb o e=>(I7.pin (b,o) (cW _ (cW _ (cI hb e)))).1) (fun b hb=>?_) w7);obtain ⟨o,e,d⟩:=T.obj _ _ st5 b hb;exact (I7.pin (b,o) (cW _ (cW _ (cI hb e)))).2.1
  cases f with
  |next=>obtain ⟨σ7,H7,I7,n7⟩:=q7;exact again I7 n7
  |cont=>obtain ⟨σ7,H7,I7,n7⟩:=q7;exact again I7 n7
  |brk=>obtain ⟨σ7,H7,I7,q7⟩:=q7;exact zAE σ7 H7 I7.unpinned q7
  |ret v=>obtain ⟨x7,σ7,H7,I7,r7,q7⟩:=q7;exact zAN x7 σ7 H7 I7.unpinned r7 q7
end
theorem xS{K:W.Frag}{a:Addr}{xs:List V}{tb:TS}{D:cY}(Pv:Nat->St->Hp->Prop)(h0:Pv 0 σ H)(hl:∀i σ H,i<=xs.length->Pv i σ H->SqL K H a xs)
 (hs:∀i x σ H,xs[i]?=some x->Pv i σ H->g x σ H fun σ2 H2=>tb {D with nx:=Pv (i+1),ct:=Pv (i+1),bk:=D.nx} σ2 H2) (hd:∀σ H,Pv xs.length σ H->D.nx σ H) :
 ∃W:Nat->Nat->St->Hp->Prop,(∃m,W 0 m σ H)/\∀i m σ H,W i m σ H->
   ((Itl K a).stop i H/\D.nx σ H)\/((Itl K a).go i H/\∃N:St->Hp->Prop,(∀σ' H',N σ' H'->∃m',m'<m/\W (i+1) m' σ' H')/\∀x H',(Itl K a).yld i H x H'->g x σ H' fun σ2 H2=>tb {D with nx:=N,ct:=N,bk:=D.nx} σ2 H2):=by
 refine zn (fun i m σ H=>m=xs.length-i/\i<=xs.length/\Pv i σ H) (zAC xs.length Jll (bT _) h0) ?_;rintro i m σ H ⟨rfl,hi,p⟩;have q:=hl i σ H hi p
 by_cases hlt:i<xs.length
 ·refine .inr ⟨zAE xs (xs[i]) q (by simp [hlt]),zn (Pv (i+1)) (fun σ' H' p'=>zAG (xs.length-(i+1)) Jlk rfl hlt p') fun x H' y=>?_⟩;obtain ⟨e,y⟩:=y;subst e;exact hs i x σ _ (y xs q) p
 ·have e:i=xs.length:=by omega
  subst e;exact .inl ⟨zn xs q (zq6 _),hd σ H p⟩
theorem vL{lo:Int}{n:Nat}{tb:TS}{D:cY}(Pv:Nat->St->Hp->Prop)(h0:Pv 0 σ H)
 (hs:∀i σ H,i<n->Pv i σ H->g (.int (lo+i)) σ H fun σ2 H2=>tb {D with nx:=Pv (i+1),ct:=Pv (i+1),bk:=D.nx} σ2 H2) (hd:∀σ H,Pv n σ H->D.nx σ H) :
 ∃W:Nat->Nat->St->Hp->Prop,(∃m,W 0 m σ H)/\∀i m σ H,W i m σ H->
   ((Itr lo n).stop i H/\D.nx σ H)\/((Itr lo n).go i H/\∃N:St->Hp->Prop,(∀σ' H',N σ' H'->∃m',m'<m/\W (i+1) m' σ' H')/\∀x H',(Itr lo n).yld i H x H'->g x σ H' fun σ2 H2=>tb {D with nx:=N,ct:=N,bk:=D.nx} σ2 H2):=by
 refine zn (fun i m σ H=>m=n-i/\i<=n/\Pv i σ H) (zAC n Jll (bT _) h0) ?_;rintro i m σ H ⟨rfl,hi,p⟩
 by_cases hlt:i<n
 ·refine .inr ⟨hlt,zn (Pv (i+1)) (fun σ' H' p'=>zAG (n-(i+1)) Jlk rfl hlt p') fun x H' y=>?_⟩;obtain ⟨e,y⟩:=y;subst e y;exact hs i σ _ hlt p
 ·have e:i=n:=by omega
  subst e;exact .inl ⟨zq6 _,hd σ H p⟩
end L2
namespace L2
abbrev R2:=V->V->Hp->VK->Prop
def OpR(X:Cx)(f:Value->Value->Sem Value)(r:R2):Prop:=
 ∀(pins:List (Addr×Obj)) (s:Shared) (σ:St) (H:Hp) (x y:V) (v u:Value) (Q:VK),Inv X pins σ H s->RelV x v->RelV y u->r x y H Q->
  wpAny (model X.prog X.w) X.A (f v u) (EP X pins σ Q) X.xe s
def UnR(X:Cx)(f:Value->Sem Value)(r:V->Hp->VK->Prop):Prop:=
 ∀(pins:List (Addr×Obj)) (s:Shared) (σ:St) (H:Hp) (x:V) (v:Value) (Q:VK),Inv X pins σ H s->RelV x v->r x H Q->
  wpAny (model X.prog X.w) X.A (f v) (EP X pins σ Q) X.xe s
def dM(X:Cx)(f:Value)(r:List V->Hp->VK->Prop):Prop:=
 ∀(pins:List (Addr×Obj)) (s:Shared) (σ:St) (H:Hp) (xs:List V) (us:List Value) (Q:VK),Inv X pins σ H s->Vals xs us->r xs H Q->
  wpAny (model X.prog X.w) X.A (call f us) (EP X pins σ Q) X.xe s
def Jm(X:Cx)(r:V->Hp->(Bool->Hp->Prop)->Prop):Prop:=
 ∀(pins:List (Addr×Obj)) (s:Shared) (σ:St) (H:Hp) (x:V) (v:Value) (Q:Bool->Hp->Prop),Inv X pins σ H s->RelV x v->r x H Q->
  wpAny (model X.prog X.w) X.A (truthy v) (TP X pins σ Q) X.xe s
def tOp(r:R2)(ta tb:TE):TE:=fun σ H Q=>ta σ H fun x H1=>tb σ H1 fun y H2=>r x y H2 Q
def tUn(r:V->Hp->VK->Prop)(ta:TE):TE:=fun σ H Q=>ta σ H fun x H1=>r x H1 Q
def rI(C:Int->Int->Prop)(g:Int->Int->V):R2:=fun x y H Q=>∃i j,x=.int i/\y=.int j/\C i j/\Q (g i j) H
def rI0(g:Int->Int->V):R2:=fun x y H Q=>∃i j,x=.int i/\y=.int j/\Q (g i j) H
def rU(g:Int->V):V->Hp->VK->Prop:=fun x H Q=>∃i,x=.int i/\Q (g i) H
section
variable {X:Cx} {a b c:Expr} {ta tb tc:TE} {pos:Pos}
theorem Er(ha:PE X a ta)(hb:PE X b tb){pins:List (Addr×Obj)}{s:Shared}{σ:St}{H:Hp}{R:V->V->Hp->Prop}(I:Inv X pins σ H s)
  (h:ta σ H fun x H1=>tb σ H1 fun y H2=>R x y H2) {Q:Value->Shared->Prop} {f:Value->Value->Sem Value}
  (hf:∀v u s2 x y H2,Inv X pins σ H2 s2->RelV x v->RelV y u->R x y H2->wpAny (model X.prog X.w) X.A (f v u) Q X.xe s2) :
  wpAny (model X.prog X.w) X.A (eval a X.env) (fun v s₁=>wpAny (model X.prog X.w) X.A (eval b X.env) (fun u s₂=>wpAny (model X.prog X.w) X.A (f v u) Q X.xe s₂) X.xe s₁) X.xe s:=by
 refine thn (ha pins s σ H _ I h) fun v s1 hhx=>?_;obtain ⟨x,H1,I1,r1,q1⟩:=hhx;refine thn (hb pins s1 σ H1 _ I1 q1) fun u s2 hhx=>?_;obtain ⟨y,H2,I2,r2,q2⟩:=hhx;exact hf v u s2 x y H2 I2 r1 r2 q2
theorem opI{f:Value->Value->Sem Value}{C:Int->Int->Prop}{g:Int->Int->Int}
  (rule:∀(i j:Int)(t u:Tok)(s:Shared)(Q:Value->Shared->Prop)(E:Value->Shared->Prop),C i j->Q (.int (g i j) s.toks) {s with toks:=s.toks+1}->wpAny (model X.prog X.w) X.A (f (.int i t) (.int j u)) Q E s) :
  OpR X f (rI C fun i j=>.int (g i j)):=by
 intro pins s σ H x y v u Q I rx ry h;obtain ⟨i,j,rfl,rfl,hc,q⟩:=h;obtain ⟨t,rfl⟩:=rx;obtain ⟨t',rfl⟩:=ry;exact rule i j t t' s _ _ hc (zAA (.int (g i j)) H (I.tok _) ⟨_,rfl⟩ q)
theorem HN{f:Value->Value->Sem Value}{g:Int->Int->Int}
  (rule:∀(i j:Int)(t u:Tok)(s:Shared)(Q:Value->Shared->Prop)(E:Value->Shared->Prop),Q (.int (g i j) s.toks) {s with toks:=s.toks+1}->wpAny (model X.prog X.w) X.A (f (.int i t) (.int j u)) Q E s) :
  OpR X f (rI0 fun i j=>.int (g i j)):=by
 intro pins s σ H x y v u Q I rx ry h;obtain ⟨i,j,rfl,rfl,q⟩:=h;obtain ⟨t,rfl⟩:=rx;obtain ⟨t',rfl⟩:=ry;exact rule i j t t' s _ _ (zAA (.int (g i j)) H (I.tok _) ⟨_,rfl⟩ q)
theorem BZ{f:Value->Value->Sem Value}{g:Int->Int->Bool}
  (rule:∀(i j:Int)(t u:Tok)(s:Shared)(Q:Value->Shared->Prop)(E:Value->Shared->Prop),Q (.bool (g i j)) s->wpAny (model X.prog X.w) X.A (f (.int i t) (.int j u)) Q E s) :
  OpR X f (rI0 fun i j=>.bl (g i j)):=by
 intro pins s σ H x y v u Q I rx ry h;obtain ⟨i,j,rfl,rfl,q⟩:=h;obtain ⟨t,rfl⟩:=rx;obtain ⟨t',rfl⟩:=ry;exact rule i j t t' s _ _ (zAA (.bl (g i j)) H I rfl q)
def xj(i j:Int):Prop:=0<=j/\j<=1000000/\i.natAbs<2 ^ 64
def CMul(i j:Int):Prop:=(-(2 ^ 64)<i/\i<2 ^ 64)\/(-(2 ^ 64)<j/\j<2 ^ 64)
theorem CMul.ok{i j:Int}(h:CMul i j):IntMulOk i j:=by
 rcases h with ⟨h1,h2⟩ | ⟨h1,h2⟩
 ·exact .of_left (intBits_le_64 h1 h2)
 ·exact .of_right (intBits_le_64 h1 h2)
theorem F2:OpR X (binaryOp .Add) (rI0 fun i j=>.int (i+j)):=HN fun _ _ _ _ _ _ _ q=>add_int q
theorem F8:OpR X (binaryOp .Sub) (rI0 fun i j=>.int (i-j)):=HN fun _ _ _ _ _ _ _ q=>sub_int q
theorem F5:OpR X (binaryOp .Mult) (rI CMul fun i j=>.int (i * j)):=opI fun _ _ _ _ _ _ _ hc q=>mul_int q hc.ok
theorem F4:OpR X (binaryOp .Mod) (rI (fun _ j=>0<j) fun i j=>.int (i % j)):=opI fun i j _ _ _ _ _ hc q=>by have h1:(0:Int)<j:=hc;exact mod_int' Jlk (by rw [Int.fmod_eq_emod_of_nonneg i Jlk];exact q)
theorem F6:OpR X (binaryOp .Pow) (rI xj fun i j=>.int (i ^ j.toNat)):=opI fun _ _ _ _ _ _ _ hc q=>pow_int_small hc.1 hc.2.1 hc.2.2 q
theorem F7:OpR X (binaryOp .LShift) (rI xj fun i j=>.int (i * 2 ^ j.toNat)):=opI fun _ _ _ _ _ _ _ hc q=>lshift_int_small hc.1 hc.2.1 hc.2.2 q
theorem unI{f:Value->Sem Value}{g:Int->Int}
  (rule:∀(i:Int)(t:Tok)(s:Shared)(Q:Value->Shared->Prop)(E:Value->Shared->Prop),Q (.int (g i) s.toks) {s with toks:=s.toks+1}->wpAny (model X.prog X.w) X.A (f (.int i t)) Q E s) :
  UnR X f (rU fun i=>.int (g i)):=by
 intro pins s σ H x v Q I rx h;obtain ⟨i,rfl,q⟩:=h;obtain ⟨t,rfl⟩:=rx;exact rule i t s _ _ (zAA (.int (g i)) H (I.tok _) ⟨_,rfl⟩ q)
theorem Hd:UnR X (unaryOp .USub) (rU fun i=>.int (-i)):=unI fun _ _ _ _ _ q=>neg_int q
end
def pH:V->V->Bool
 | .non,.non=>true | .non,.int _=>true | .int _,.non=>true | .non,.bl _=>true | .bl _,.non=>true | .non,.str _=>true | .str _,.non=>true
 | .int _,.int _=>true | .bl _,.bl _=>true | .str _,.str _=>true | .byt _,.byt _=>true
 | .int _,.str _=>true | .str _,.int _=>true | .bl _,.str _=>true | .str _,.bl _=>true
 |_,_=>false
def rEq:R2:=fun x y H Q=>pH x y=true/\Q (.bl (decide (x=y))) H
def rNe:R2:=fun x y H Q=>pH x y=true/\Q (.bl (! decide (x=y))) H
theorem tI{i j:Int}:decide (V.int i=V.int j)=(i==j):=by rw [eh];simp
theorem xI{i j:Bool}:decide (V.bl i=V.bl j)=(i==j):=by rw [eh];simp
theorem tJ{i j:Str}:decide (V.str i=V.str j)=(i==j):=by rw [eh];simp
theorem tH{i j:Array UInt8}:decide (V.byt i=V.byt j)=(i.toList==j.toList):=by
 rw [eh]
 cases i
 cases j
 simp
section
variable {X:Cx} {a b c:Expr} {ta tb tc:TE} {pos:Pos}
theorem aZ{pins:List (Addr×Obj)}{σ:St}{H:Hp}{s:Shared}{Q:VK}{k k':Bool}(I:Inv X pins σ H s)(q:Q (.bl k) H)(e:k=k'):EP X pins σ Q (.bool k') s:=by subst e;exact zAA (.bl k) H I rfl q
theorem bu:OpR X (compareOp .Eq) rEq:=by
 intro pins s σ H x y v u Q I rx ry h;obtain ⟨hs,q⟩:=h
 cases x with
 |non=>
  cases rx
  cases y with
  |non=>cases ry;exact PySem.EqNone.eq_none_none (aZ I q Jll)
  |bl j=>cases ry;exact PySem.EqNone.eq_none_bool (aZ I q Jll)
  |int j=>obtain ⟨t',rfl⟩:=ry;exact PySem.EqNone.eq_none_int (aZ I q Jll)
  |str j=>obtain ⟨t',rfl⟩:=ry;exact PySem.EqNone.eq_none_str (aZ I q Jll)
  |_=>exact absurd (show false=true from hs) bz
 |bl i=>
  cases rx
  cases y with
  |non=>cases ry;exact PySem.EqNone.eq_bool_none (aZ I q Jll)
  |bl j=>cases ry;exact eq_bool (aZ I q xI)
  |str j=>obtain ⟨t',rfl⟩:=ry;exact PySem.EqMixed.eq_bool_str (aZ I q Jll)
  |_=>exact absurd (show false=true from hs) bz
 |int i=>
  obtain ⟨t,rfl⟩:=rx
  cases y with
  |non=>cases ry;exact PySem.EqNone.eq_int_none (aZ I q Jll)
  |int j=>obtain ⟨t',rfl⟩:=ry;exact eq_int (aZ I q tI)
  |str j=>obtain ⟨t',rfl⟩:=ry;exact PySem.EqMixed.eq_int_str (aZ I q Jll)
  |_=>exact absurd (show false=true from hs) bz
 |str i=>
  obtain ⟨t,rfl⟩:=rx
  cases y with
  |non=>cases ry;exact PySem.EqNone.eq_str_none (aZ I q Jll)
  |bl j=>cases ry;exact PySem.EqMixed.eq_str_bool (aZ I q Jll)
  |int j=>obtain ⟨t',rfl⟩:=ry;exact PySem.EqMixed.eq_str_int (aZ I q Jll)
  |str j=>obtain ⟨t',rfl⟩:=ry;exact eq_str (aZ I q tJ)
  |_=>exact absurd (show false=true from hs) bz
 |byt i=>
  obtain ⟨t,rfl⟩:=rx
  cases y with
  |byt j=>obtain ⟨t',rfl⟩:=ry;exact W.eq_bytes (aZ I q tH)
  |_=>exact absurd (show false=true from hs) bz
 |_=>cases y<;>exact absurd (show false=true from hs) bz
theorem iT:OpR X (compareOp .NotEq) rNe:=by
 intro pins s σ H x y v u Q I rx ry h;obtain ⟨hs,q⟩:=h
 cases x with
 |non=>
  cases rx
  cases y with
  |non=>cases ry;exact PySem.EqNone.ne_none_none (aZ I q Jll)
  |bl j=>cases ry;exact PySem.EqNone.ne_none_bool (aZ I q Jll)
  |int j=>obtain ⟨t',rfl⟩:=ry;exact PySem.EqNone.ne_none_int (aZ I q Jll)
  |str j=>obtain ⟨t',rfl⟩:=ry;exact PySem.EqNone.ne_none_str (aZ I q Jll)
  |_=>exact absurd (show false=true from hs) bz
 |bl i=>
  cases rx
  cases y with
  |non=>cases ry;exact PySem.EqNone.ne_bool_none (aZ I q Jll)
  |bl j=>cases ry;exact ne_bool (aZ I q (congrArg not xI))
  |str j=>obtain ⟨t',rfl⟩:=ry;exact PySem.EqMixed.ne_bool_str (aZ I q Jll)
  |_=>exact absurd (show false=true from hs) bz
 |int i=>
  obtain ⟨t,rfl⟩:=rx
  cases y with
  |non=>cases ry;exact PySem.EqNone.ne_int_none (aZ I q Jll)
  |int j=>obtain ⟨t',rfl⟩:=ry;exact ne_int (aZ I q (congrArg not tI))
  |str j=>obtain ⟨t',rfl⟩:=ry;exact PySem.EqMixed.ne_int_str (aZ I q Jll)
  |_=>exact absurd (show false=true from hs) bz
 |str i=>
  obtain ⟨t,rfl⟩:=rx
  cases y with
  |non=>cases ry;exact PySem.EqNone.ne_str_none (aZ I q Jll)
  |bl j=>cases ry;exact PySem.EqMixed.ne_str_bool (aZ I q Jll)
  |int j=>obtain ⟨t',rfl⟩:=ry;exact PySem.EqMixed.ne_str_int (aZ I q Jll)
  |str j=>obtain ⟨t',rfl⟩:=ry;exact ne_str (aZ I q (congrArg not tJ))
  |_=>exact absurd (show false=true from hs) bz
 |byt i=>
  obtain ⟨t,rfl⟩:=rx
  cases y with
  |byt j=>obtain ⟨t',rfl⟩:=ry;exact W.ne_bytes (aZ I q (congrArg not tH))
  |_=>exact absurd (show false=true from hs) bz
 |_=>cases y<;>exact absurd (show false=true from hs) bz
theorem HS:OpR X (compareOp .Lt) (rI0 fun i j=>.bl (decide (i<j))):=BZ fun _ _ _ _ _ _ _ q=>lt_int q
theorem HR:OpR X (compareOp .LtE) (rI0 fun i j=>.bl (decide (i<=j))):=BZ fun _ _ _ _ _ _ _ q=>le_int q
theorem HQ:OpR X (compareOp .Gt) (rI0 fun i j=>.bl (decide (j<i))):=BZ fun _ _ _ _ _ _ _ q=>gt_int q
theorem HP:OpR X (compareOp .GtE) (rI0 fun i j=>.bl (decide (j<=i))):=BZ fun _ _ _ _ _ _ _ q=>ge_int q
theorem F3:OpR X (compareOp .Is) (fun x y H Q=>y=.non/\Q (.bl (decide (x=.non))) H):=by
 intro pins s σ H x y v u Q I rx ry h;obtain ⟨rfl,q⟩:=h
 cases ry
 refine is_none_gen (aZ I q ?_)
 cases x<;>first
  | (cases rx;rfl)
  | (obtain ⟨t,rfl⟩:=rx;rfl)
theorem je:OpR X (compareOp .IsNot) (fun x y H Q=>y=.non/\Q (.bl (! decide (x=.non))) H):=by
 intro pins s σ H x y v u Q I rx ry h;obtain ⟨rfl,q⟩:=h
 cases ry
 refine isnot_none_gen (aZ I q ?_)
 cases x<;>first
  | (cases rx;rfl)
  | (obtain ⟨t,rfl⟩:=rx;rfl)
theorem aA(b:Expr){op:CmpOp}(h:op≠.In:=by decide)(h2:op≠.NotIn:=by decide):behindInMarks op b=false:=by
 have e1:(op==CmpOp.In)=false:=by cases op<;>first | rfl | exact absurd rfl h
 have e2:(op==CmpOp.NotIn)=false:=by cases op<;>first | rfl | exact absurd rfl h2
 cases b<;>simp [behindInMarks,e1,e2]
def Aa(t:TE):TT:=fun σ H Q=>t σ H fun x H'=>∃k,x=.bl k/\Q k H'
def A2(r r':R2)(ta tb tc:TE):TE:=fun σ H Q=>ta σ H fun x H1=>tb σ H1 fun y H2=>r x y H2 fun z H3=>∃k,z=.bl k/\
 (if k=true then tc σ H3 fun w' H4=>r' y w' H4 Q else Q (.bl false) H3)
def En(K:W.Frag)(x:V)(H:Hp)(k:Bool):Prop:=
 match x with
 | .non=>k=false
 | .bl b=>k=b
 | .int i=>k=(i != 0)
 | .str y=>y.length<=sizeLine/\k=((y.length:Int) != 0)
 | .byt y=>y.size<=sizeLine/\k=((y.size:Int) != 0)
 | .ref p=>(∃xs,SqL K H p xs/\k=! xs.isEmpty)\/(∃xs,SqT K H p xs/\k=! xs.isEmpty)\/∃kvs,H p=some (.dK kvs)/\k=! kvs.isEmpty
 |_=>False
theorem rn{κ:Type}{kvs:List (κ×V)}{vs:List (κ×Value)}(r:KV kvs vs):(! vs.isEmpty)=! kvs.isEmpty:=by cases r<;>rfl
theorem jM{xs:List V}{its:List Value}(r:Vals xs its):(! its.toArray.isEmpty)=! xs.isEmpty:=by cases r<;>simp
theorem iz:(sizeLine:Nat)<2 ^ 63:=by rw [b9];decide
theorem Ha:Jm X (fun x H Q=>∃k,En X.K x H k/\Q k H):=by
 intro pins s σ H x v Q I rx h;obtain ⟨k,e,q⟩:=h;have hl:=iz;have hs:sizeLine=16777216:=b9
 cases x with
 |non=>
  cases rx
  have e':k=false:=e;subst e';exact truthy_none (zn H I q)
 |bl b=>
  cases rx
  have e':k=b:=e;subst e';exact wpAny_truthy_bool (zn H I q)
 |int i=>
  obtain ⟨t,rfl⟩:=rx;have e':k=(i != 0):=e;subst e';exact PySem.P.truthy_int (zn H I q)
 |str y=>
  obtain ⟨t,rfl⟩:=rx;obtain ⟨hy,e'⟩:y.length<=sizeLine/\k=((y.length:Int) != 0):=e;subst e';exact PySem.P.truthy_str Jlk (zn H (I.tok _) q)
 |byt y=>
  obtain ⟨t,rfl⟩:=rx;obtain ⟨hy,e'⟩:y.size<=sizeLine/\k=((y.size:Int) != 0):=e;subst e';exact W.truthy_bytes Jlk (zn H (I.tok _) q)
 |ref p=>
  cases rx
  have e':(∃xs,SqL X.K H p xs/\k=! xs.isEmpty)\/(∃xs,SqT X.K H p xs/\k=! xs.isEmpty)\/∃kvs,H p=some (.dK kvs)/\k=! kvs.isEmpty:=e;rcases e' with ⟨xs,hx,e'⟩ | ⟨xs,hx,e'⟩ | ⟨kvs,hx,e'⟩
  ·subst e';obtain ⟨its,r,pl,hz⟩:=I.list hx;have hlen:=r.length;exact wpAny_truthy_list pl.isList (by simp only [List.size_toArray];omega) (zn H (I.tok _) (by rw [jM r];exact q))
  ·subst e';obtain ⟨its,r,pl,hz⟩:=I.tuple hx;have hlen:=r.length;exact truthy_tuple pl (by simp only [List.size_toArray];omega) (zn H (I.tok _) (by rw [jM r];exact q))
  ·subst e';obtain ⟨hz,hS,vs,r,m⟩:kvs.length<=sizeLine/\(p==sysModules)=false/\∃vs,KV kvs vs/\s.heap.DictOf (bB X.prog X.w) p vs:=I.hok p _ hx;have hlen:kvs.length=vs.length:=Paired.length r;exact wpAny_truthy_dict hS m Jlk (zn H (I.tok _) (by rw [rn r];exact q))
 |_=>exact (show False from e).elim
theorem yW(ha:PE X a ta)(he:∀whole,isTrue a X.env whole=(do let v <- whole;standAt a.pos;holding [v] (truthy v))):
  PT X a (fun σ H Q=>ta σ H fun x H'=>∃k,En X.K x H' k/\Q k H'):=by
 intro pins s σ H Q I h;exact isTrue_plain (thn (ha pins s σ H _ I h) fun v s1 ⟨x,H1,I1,r1,q1⟩=>Ha pins s1 σ H1 x v Q I1 r1 q1) (he _)
theorem rK:OpR X (binaryOp .Add) (fun x y H Q=>∃i j,x=.str i/\y=.str j/\i.length+j.length<=sizeLine/\Q (.str (i++j)) H):=by intro pins s σ H x y v u Q I rx ry h;obtain ⟨i,j,rfl,rfl,hz,q⟩:=h;obtain ⟨t,rfl⟩:=rx;obtain ⟨t',rfl⟩:=ry;exact add_str (fun t' tk=>zAA (.str (i++j)) H (I.tok _) ⟨_,rfl⟩ q) hz
theorem fu{x:V}{us:List Value}(r:Vals [x] us):∃u,us=[u]/\RelV x u:=by
 cases r with
 |cons r1 r2=>cases r2;exact zn _ rfl r1
theorem Ai{x y:V}{us:List Value}(r:Vals [x,y] us):∃u w',us=[u,w']/\RelV x u/\RelV y w':=by
 cases r with
 |cons r1 r2=>
  cases r2 with
  |cons r3 r4=>cases r4;exact zAA _ _ rfl r1 r3
theorem vy:dM X (.type "int") (fun xs H Q=>(∃i,xs=[.int i]/\Q (.int i) H)\/∃k,xs=[.bl k]/\Q (.int (if k then 1 else 0)) H):=by
 intro pins s σ H xs us Q I r h;rcases h with ⟨i,rfl,q⟩ | ⟨k,rfl,q⟩
 ·obtain ⟨u,rfl,t,rfl⟩:=fu r;exact call_int_int (zAA (.int i) H I ⟨_,rfl⟩ q)
 ·obtain ⟨u,rfl,r1⟩:=fu r
  cases r1
  exact call_int_bool (zAA (.int (if k then 1 else 0)) H (I.tok _) ⟨_,rfl⟩ q)
end
end L2
namespace L2
structure ObjM(h:Heap)(x dx C:Addr)(mA:Str->Option Value):Prop where
 obj:h.get? x=some (W.instObj C dx)
 ns:h.Ns1 dx mA
 ne:dx≠x
theorem vZ{h:Heap}{dx:Addr}{mA:Str->Option Value}(n:h.Ns1 dx mA):∃od,h.get? dx=some od/\∀name,W.lookIn name od=some (mA name):=by
 obtain ⟨o,es,ep,ho,hd,hk,_,hm⟩:=n;refine zn o ho fun name=>?_;have e:=hm name;unfold nsFind findBy at e;rw [<- Array.find?_toList] at e;unfold W.lookIn;rw [hd];dsimp only
 split
 ·rename_i y q
  rw [q] at e;exact congrArg some e
 ·rename_i q
  rw [q] at e;have a:es.toList.any (·.refKey)=false:=by rw [List.any_eq_false];intro y hy;obtain ⟨z,t,hkey⟩:=hk y (Array.mem_toList_iff.mp hy);simp [DictEntry.refKey,hkey]
  have a':¬es.toList.any (·.refKey)=true:=by rw [a];exact bz
  rw [zq1 a'];exact congrArg some e
theorem ObjM.look{h:Heap}{x dx C:Addr}{mA:Str->Option Value}(I:ObjM h x dx C mA):∃od,W.InstAt h x (W.instObj C dx) C (some od)/\∀name,W.lookIn name od=some (mA name):=
 let ⟨od,ho,hl⟩:=vZ I.ns
 (zn od ⟨I.obj,rfl,rfl,ho⟩ hl)
section
variable {prog:Program} {w:World} {A:Around} {E:Value->Shared->Prop} {s:Shared} {K:W.Frag} {x dx C f:Addr} {mA:Str->Option Value} {name:Str} {v:Value}
theorem Bx{expr:Bool}{Q:Value->Shared->Prop}(X:K.In s.heap)(I:ObjM s.heap x dx C mA)(hg:W.plainGet K C name=true)(hh:W.hasDictIn K C=true)
  (ha:W.findIn K (.ref C) name=some none) (hv:mA name=some v) (hv':W.handedIn v=true) (h:Q v {s with toks:=s.toks+1}) :
  wpAny (model prog w) A (getAttr (.ref x) name expr) Q E s:=by
 obtain ⟨od,J,hl⟩:=I.look;exact W.get_value X J (W.plainGet_of hg).1 (W.findObj_own hh ha rfl (by rw [hl,hv])) hv' h
theorem xW{pl:Sem Bool}{Q:Value×List Value->Shared->Prop}(X:K.In s.heap)(I:ObjM s.heap x dx C mA)(hg:W.plainGet K C name=true)
  (hf:W.findIn K (.ref C) name=some (some (.ref f))) (ht:W.isFn K (.ref f)=true) (hv:mA name=none) (h:Q (.ref f,[.ref x]) s) :
  wpAny (model prog w) A (getMethod (.ref x) name pl) Q E s:=by
 obtain ⟨od,J,hl⟩:=I.look;exact W.method_fn X J (W.plainGet_of hg).1 (W.plainGet_of hg).2 hf (zq57.mp ht) (by show (W.lookIn name od).map (·.isSome)=some false;rw [hl,hv];rfl) h
theorem CA{ns:List Str}{Q:Unit->Shared->Prop}(X:K.In s.heap)(I:ObjM s.heap x dx C mA)
  (hs:W.findIn K (.ref C) "__setattr__"=some (some (.builtin "object.__setattr__"))) (hp:W.plainOver K C=true) (ht:W.takerIn K C name=some none) (hh:W.hasDictIn K C=true)
  (hw:PySem.Within mA ns) (hsz:ns.length<=sizeLine)
  (h:∀h',ObjM h' x dx C (fun y=>if y=name then some v else mA y)->Heap.SameBut dx s.heap h'->Q () {s with heap:=h',toks:=s.toks+2}) :
  wpAny (model prog w) A (setAttr (.ref x) name v) Q E s:=by
 obtain ⟨od,J,hl⟩:=I.look;refine W.set_plain X J hs (W.osa_open (s:={s with toks:=s.toks+1}) (r:=none) X J hp ht fun b=>?_);obtain ⟨cd,hc,hd'⟩:=W.any_some hh;have hx:s.heap.get? x=some ⟨.ref C,some dx,.plain,#[]⟩:=I.obj;refine zq0 (zq3 (zq0 (zq0 (wpAny_loadPart hx (zq0 (W.Looks.here (s:={s with toks:=s.toks+1}) (W.looks_clsIn X hc) ?_))))));rw [hd'];refine zq3 (a:=some dx) (zq0 (zq3 (zq0 ?_)));refine wpAny_nsSet1 (s:={s with toks:=s.toks+1}) I.ns fun h' hn2 hs2=>?_;obtain ⟨oD,esD,epD,hoD,hdD,hcD⟩:=hn2.count (PySem.Within.cons name v hw);refine zq0 (wpAny_lookBehind hoD (by rw [hdD];exact pastItsLine_dict (dX hcD (by rw [d5];omega))) ?_);exact zq3 (h _ ⟨(hs2.2 _ (Ne.symm I.ne)).trans I.obj,hn2,I.ne⟩ hs2)
theorem yb{R:Result->Shared->Prop}{vs:List Value}{kw:List (Str×Value)}(X:K.In s.heap)(hm:W.makesIn K C=true)
  (hi:W.findIn K (.ref C) "__init__"=some (some (.ref f))) (hf:W.typeIn K (.ref f)=some (.type "function"))
  (h:codeAny (model prog w) (A.under (.builtin "type.__call__" ⟨.ref C::vs,kw⟩)) (.call (.ref f) ⟨.ref (s.heap.objs.size+1)::vs,kw⟩) (W.InitBack (s.heap.objs.size+1) R)
   {s with heap:=(s.heap.push W.emptyDict).push (W.instObj C s.heap.objs.size)}) :
  codeAny (model prog w) A (.call (.ref C) ⟨vs,kw⟩) R s:=by
 obtain ⟨hh,g,d,t,os⟩:=s;exact W.make_core (W.makes_of X hm) (W.looks_findIn X hi) (fun self=>W.bind_fn X self hf) (.inl rfl) h
end
def dC(f:Str)(v:V):List (Str×V)->List (Str×V)
 | []=>[(f,v)]
 | (g,x)::r=>if g=f then (g,v)::r else (g,x)::dC f v r
theorem iR(f g:Str)(v:V):∀fs:List (Str×V),(dC f v fs).lookup g=if g=f then some v else fs.lookup g
 | []=>by
  show List.lookup g [(f,v)]=_
  by_cases h:g=f
  ·have hb:(g==f)=true:=zq57.mpr h;simp only [List.lookup,hb,if_pos h]
  ·have hb:(g==f)=false:=beq_eq_false_iff_ne.mpr h;simp only [List.lookup,hb,if_neg h]
 | (k,x)::r=>by
  have ih:=iR f g v r;rw [show dC f v ((k,x)::r)=(if k=f then (k,v)::r else (k,x)::dC f v r) from rfl]
  by_cases hk:k=f
  ·rw [zq2 hk]
   by_cases h:g=k
   ·have hb:(g==k)=true:=zq57.mpr h;simp only [List.lookup,hb,if_pos (h.trans hk)]
   ·have hb:(g==k)=false:=beq_eq_false_iff_ne.mpr h;simp only [List.lookup,hb,if_neg (fun e:g=f=>h (e.trans hk.symm))]
  ·rw [zq1 hk]
   by_cases h:g=k
   ·have hb:(g==k)=true:=zq57.mpr h;simp only [List.lookup,hb,if_neg (fun e:g=f=>hk (h.symm.trans e))]
   ·have hb:(g==k)=false:=beq_eq_false_iff_ne.mpr h;simp only [List.lookup,hb];exact ih
theorem iy(f:Str)(v:V):∀fs:List (Str×V),f∈(dC f v fs).map (·.1)/\∀g,g∈fs.map (·.1)->g∈(dC f v fs).map (·.1)
 | []=>⟨by simp [dC],fun g h=>by simp at h⟩
 | (k,x)::r=>by
  obtain ⟨i1,i2⟩:=iy f v r;rw [show dC f v ((k,x)::r)=(if k=f then (k,v)::r else (k,x)::dC f v r) from rfl]
  by_cases hk:k=f
  ·rw [zq2 hk];subst hk;exact ⟨Jll,fun g h=>by simpa using h⟩
  ·rw [zq1 hk];refine ⟨?_,fun g h=>?_⟩
   ·rw [cm];exact b7 _ i1
   ·rw [cm] at h ⊢;rcases zq11.mp h with e | e
    ·exact zq11.mpr (.inl e)
    ·exact b7 _ (i2 g e)
theorem iP(f:Str)(v:V):∀fs:List (Str×V),(dC f v fs).length<=fs.length+1
 | []=>by simp [dC]
 | (k,x)::r=>by
  have ih:=iP f v r;rw [show dC f v ((k,x)::r)=(if k=f then (k,v)::r else (k,x)::dC f v r) from rfl]
  by_cases hk:k=f
  ·rw [zq2 hk,d5,d5];omega
  ·rw [zq1 hk,d5,d5];omega
theorem RelO.some_of{v:V}{o:Option Value}(r:RelO (some v) o):∃u,o=some u/\RelV v u:=by
 cases o with
 |none=>exact (show False from r).elim
 |some u=>exact zn u rfl r
theorem RelO.none_of{o:Option Value}(r:RelO none o):o=none:=by
 cases o with
 |none=>rfl
 |some u=>exact (show False from r).elim
theorem vN{v:V}{u:Value}(r:RelV v u):W.handedIn u=true:=by
 cases v with
 |non=>cases (show u=Value.none from r);rfl
 |bl b=>cases (show u=Value.bool b from r);rfl
 |int i=>obtain ⟨t,e⟩:=(show ∃t,u=Value.int i t from r);cases e;rfl
 |str x=>obtain ⟨t,e⟩:=(show ∃t,u=Value.str x t from r);cases e;rfl
 |byt b=>obtain ⟨t,e⟩:=(show ∃t,u=Value.bytes b t from r);cases e;rfl
 |flt b=>obtain ⟨t,e⟩:=(show ∃t,u=Value.float b t from r);cases e;rfl
 |ref a=>cases (show u=Value.ref a from r);rfl
 |ty n=>cases (show u=Value.type n from r);rfl
section
variable {P:Program} {w:World} {H H':Hp} {h h':Heap} {a C dx:Addr} {fs fs':List (Str×V)}
theorem mE(hok:HOk P w H h)(e:H a=some (.ins C dx fs)):∃mA,ObjM h a dx C mA/\(∀f,RelO (fs.lookup f) (mA f))/\PySem.Within mA (fs.map (·.1))/\fs.length<=1000/\H dx=some (.own a):=by
 obtain ⟨d,z,ne,ob,mA,n,r,q⟩:=(show ObjOk P w H h a (.ins C dx fs) from hok a _ e)
 exact zAW mA ⟨ob,n,ne⟩ r q z d
end
structure Cls(K:W.Frag)(C:Addr):Prop where
 pg:W.plainGet K C Str.empty=true
 hd:W.hasDictIn K C=true
 po:W.plainOver K C=true
 sa:W.findIn K (.ref C) "__setattr__"=some (some (.builtin "object.__setattr__"))
theorem Cls.get{K:W.Frag}{C:Addr}(c:Cls K C)(f:Str):W.plainGet K C f=true:=c.pg
def NoAttr(K:W.Frag)(C:Addr)(f:Str):Prop:=W.findIn K (.ref C) f=some none
theorem NoAttr.taker{K:W.Frag}{C:Addr}{f:Str}(n:NoAttr K C f):W.takerIn K C f=some none:=by unfold W.takerIn;rw [show W.findIn K (.ref C) f=some none from n];rfl
structure vt(K:W.Frag)(C:Addr)(m:Str)(f:Addr):Prop where
 at_:W.findIn K (.ref C) m=some (some (.ref f))
 fn:W.isFn K (.ref f)=true
 kp:W.keepIn K (.ref f)=true
section
variable {X:Cx} {pins:List (Addr×Obj)} {σ:St} {H:Hp} {s:Shared} {a C dx:Addr} {fs:List (Str×V)} {f:Str} {v:V} {A:Around} {E:Value->Shared->Prop}
theorem rg{b:Bool}{Q:Value->Shared->Prop}(I:Inv X pins σ H s)(e:H a=some (.ins C dx fs))(c:Cls X.K C)(n:NoAttr X.K C f)(l:fs.lookup f=some v)
  (h:∀u s',Inv X pins σ H s'->RelV v u->Q u s'):wpAny (model X.prog X.w) A (getAttr (.ref a) f b) Q E s:=by
 obtain ⟨mA,O,r,_,_,_⟩:=mE I.hok e;obtain ⟨u,hu,ru⟩:=RelO.some_of (v:=v) (o:=mA f) (by rw [<- l];exact r f);exact Bx I.kIn O (c.get f) c.hd n hu (vN ru) (h u _ (I.tok _) ru)
theorem gx{m:Str}{g:Addr}{pl:Sem Bool}{Q:Value×List Value->Shared->Prop}(I:Inv X pins σ H s)(e:H a=some (.ins C dx fs))(c:Cls X.K C)(k:vt X.K C m g)(l:fs.lookup m=none)
  (h:Q (.ref g,[.ref a]) s):wpAny (model X.prog X.w) A (getMethod (.ref a) m pl) Q E s:=by
 obtain ⟨mA,O,r,_,_,_⟩:=mE I.hok e;have hn:mA m=none:=RelO.none_of (by rw [<- l];exact r m);exact xW I.kIn O (c.get m) k.at_ k.fn hn h
theorem se{y:V}{u:Value}{Q:Unit->Shared->Prop}(I:Inv X pins σ H s)(e:H a=some (.ins C dx fs))(c:Cls X.K C)(n:NoAttr X.K C f)(hl:fs.length<1000)(ry:RelV y u)
  (h:∀s',Inv X pins σ (upd H a (.ins C dx (dC f y fs))) s'->Q () s'):wpAny (model X.prog X.w) A (setAttr (.ref a) f u) Q E s:=by
 obtain ⟨mA,O,r,wi,_,ho⟩:=mE I.hok e;have hz:(fs.map (·.1)).length<=sizeLine:=by rw [zq4,b9];omega
 refine CA I.kIn O c.sa c.po n.taker c.hd wi hz fun h' O' sb=>h _ ?_;have hd:∃o,h'.get? dx=some o:=let ⟨o,_,_,e',_⟩:=O'.ns;⟨o,e'⟩;refine I.write (x:=a) (e:=dx) (by rw [e];exact True.intro) (.inr ho) (fun b q hb z=>(sb.2 b hb).trans z) hd ?_;refine zAJ (by rw [ao O.ne];exact ho) ?_ O.ne O'.obj (zAC _ O'.ns (fun g=>?_) fun g hg=>?_)
 ·have:=iP f y fs;omega
 ·show RelO ((dC f y fs).lookup g) (if g=f then some u else mA g);rw [iR]
  by_cases q:g=f
  ·rw [zq2 q,zq2 q];exact ry
  ·rw [zq1 q,zq1 q];exact r g
 ·by_cases q:g=f
  ·rw [q];exact (iy f y fs).1
  ·refine (iy f y fs).2 g (wi g fun z=>hg ?_);show (if g=f then some u else mA g)=none;rw [zq1 q];exact z
theorem Inv.made(I:Inv X pins σ H s):Inv X pins σ (upd (upd H s.heap.objs.size (.own (s.heap.objs.size+1))) (s.heap.objs.size+1) (.ins C s.heap.objs.size []))
  {s with heap:=(s.heap.push W.emptyDict).push (W.instObj C s.heap.objs.size)}:=by
 have e1:(s.heap.push W.emptyDict).get? s.heap.objs.size=some W.emptyDict:=cF s.heap rfl;have e2:((s.heap.push W.emptyDict).push (W.instObj C s.heap.objs.size)).get? (s.heap.objs.size+1)=some (W.instObj C s.heap.objs.size):=by have:=cF (s.heap.push W.emptyDict) (o:=W.instObj C s.heap.objs.size) rfl;rwa [iI] at this
 have e3:(s.heap.push W.emptyDict).Ns s.heap.objs.size (fun _=>none):=zAO W.emptyDict (#[]) _ e1 rfl (fun e he=>absurd he Jll) fun _=>rfl
 have I1:=I.laid (a:=s.heap.objs.size) (o:=.own (s.heap.objs.size+1)) (h':=s.heap.push W.emptyDict) (t':=s.toks) (fun b u q=>bO _ q) (zq6 _) ⟨_,e1⟩;refine I1.laid (a:=s.heap.objs.size+1) (o:=.ins C s.heap.objs.size []) (t':=s.toks) (fun b u q=>bO _ q) (Nat.le_of_eq (iI _ _)) ?_;have ne:s.heap.objs.size≠s.heap.objs.size+1:=cf (x8 _);refine zAJ (by rw [ao ne,ae]) (bT _) ne e2 (zAC (fun _=>none) ((Heap.Ns1.of_empty e3).at fun o q=>bO _ q) (fun _=>True.intro) fun y hy=>absurd rfl hy)
theorem Ba{prog:Program}{w:World}{env:Env}{e:Expr}{f:Str}{pos:Pos}{s:Shared}{Q:Value->Shared->Prop}(hb:attributeBase e f env (eval e env)=eval e env)
  (h:wpAny (model prog w) A (eval e env) (fun o s₁=>wpAny (model prog w) A (getAttr o f true) Q E s₁) E s):wpAny (model prog w) A (eval (.Attribute e f pos) env) Q E s:=
 Attribute_any_ h (by rw [arm_eval_Attribute,hb])
end
def J3(K:W.Frag)(ta:TE)(f:Str):TE:=fun σ H Q=>ta σ H fun x H1=>∃a C dx fs v,x=.ref a/\H1 a=some (.ins C dx fs)/\Cls K C/\NoAttr K C f/\fs.lookup f=some v/\Q v H1
def IW(K:W.Frag)(ta tv:TE)(f:Str):TS:=fun D σ H=>tv σ H fun y H1=>ta σ H1 fun x H2=>∃a C dx fs,x=.ref a/\H2 a=some (.ins C dx fs)/\Cls K C/\NoAttr K C f/\fs.length<1000/\
 D.nx σ (upd H2 a (.ins C dx (dC f y fs)))
section
variable {X:Cx} {o e value:Expr} {f:Str} {pos pos' tpos:Pos} {ta tv:TE}
theorem CW{pl:Sem Bool}{m:Str}{apos:Pos}{args:List Expr}{pins:List (Addr×Obj)}{s:Shared}{σ:St}{H:Hp}{Q:Value->Shared->Prop}{te:TE}(he:PE X e te)(I:Inv X pins σ H s)
  (h:te σ H fun x H1=>∃a C dx fs g,x=.ref a/\H1 a=some (.ins C dx fs)/\Cls X.K C/\vt X.K C m g/\fs.lookup m=none/\
   ∀s1,Inv X pins σ H1 s1->wpAny (model X.prog X.w) X.A (callWith pos (.ref g) [.ref a] (backTo pos (starEach args X.env)) (backToKw pos (keywordEach [] X.env))) Q X.xe s1)
  (ht:eval (.Call (.Attribute e m apos) args [] pos) X.env=(do
   let ov <- eval e X.env
   standAt apos.atName
   let (f,first) <- holding [ov] (getMethod ov m pl)
   callWith pos f first (backTo pos (starEach args X.env)) (backToKw pos (keywordEach [] X.env)))) :
  wpAny (model X.prog X.w) X.A (eval (.Call (.Attribute e m apos) args [] pos) X.env) Q X.xe s:=by
 refine W.methodCall_KW (pl:=pl) (thn (he pins s σ H _ I h) fun u s1 hhx=>?_) ht;obtain ⟨x,H1,I1,rx,a,C,dx,fs,g,ex,ea,c,k,l,q⟩:=hhx;subst ex;obtain rfl:u=Value.ref a:=rx;exact gx I1 ea c k l (q s1 I1)
end
section
variable {X:Cx} {pins:List (Addr×Obj)} {σ:St} {H:Hp} {s:Shared} {A:Around} {E:Value->Shared->Prop} {Q:Value->Shared->Prop} {c:Value} {b:Bool}
end
end L2
namespace L2
structure Room(k:Nat)(A:Around):Prop where
 hd:A.handled=none
 dp:A.depth+3 * k+5<recursionLimit
 un:A.units+16 * k+200<cLine
theorem Room.mono{j k:Nat}{A:Around}(r:Room k A)(h:j<=k):Room j A:=⟨r.hd,by have:=r.dp;omega,by have:=r.un;omega⟩
theorem Room.m{n m:Nat}{A:Around}(h:Room n A)(l:m<=n:=by first | decide | omega):Room m A:=h.mono l
theorem Room.deeper{k:Nat}{A:Around}(r:Room (k+1) A)(env:Env):Room k (A.deeper env):=
 ⟨r.hd,by have:=r.dp;show A.depth+1+3 * k+5<_;omega,by have:=r.un;show A.units+3+16 * k+200<_;omega⟩
theorem rp{A:Around}{C:Addr}{us:List Value}{kw:List (Str×Value)}:(A.under (.builtin "type.__call__" ⟨.ref C::us,kw⟩)).depth=A.depth+1:=by first | rfl | simp [Around.under,Code.weight,Code.isCreation,Code.isGuard,Code.isCaller,Code.frames,Code.isFrame,guardIds]
theorem rq{A:Around}{C:Addr}{us:List Value}{kw:List (Str×Value)}:(A.under (.builtin "type.__call__" ⟨.ref C::us,kw⟩)).units=A.units+1:=by first | rfl | simp [Around.under,Code.cUnits,Code.frames,Code.isFrame]
theorem Room.make{k:Nat}{A:Around}(r:Room (k+1) A)(C:Addr)(us:List Value)(kw:List (Str×Value)):Room k (A.under (.builtin "type.__call__" ⟨.ref C::us,kw⟩)):=
 ⟨r.hd,by have:=r.dp;rw [rp];omega,by have:=r.un;rw [rq];omega⟩
theorem Room.depth{k:Nat}{A:Around}(r:Room k A):A.depth<recursionLimit:=by have:=r.dp;omega
theorem Room.units{k:Nat}{A:Around}(r:Room k A):A.units+64<cLine:=by have:=r.un;omega
def qa:TA:=fun _ H Q=>Q [] H
def A3(ta:TE)(tr:TA):TA:=fun σ H Q=>ta σ H fun x H1=>tr σ H1 fun xs H2=>Q (x::xs) H2
section
variable {X:Cx} {e:Expr} {es:List Expr} {te:TE} {t:TA} {pos:Pos}
theorem yF:PA X [] qa:=fun _ _ _ _ H Q I h=>Calls.spliced_nil (zAA ([]) H I .nil h)
theorem ug(ha:PE X e te)(hr:PA X es t)(hs:starEach (e::es) X.env=(false,eval e X.env)::starEach es X.env:=by rfl):PA X (e::es) (A3 te t):=by intro pos pins s σ H Q I h;rw [hs];show wpAny _ _ (spliced ((false,eval e X.env)::backTo pos (starEach es X.env))) _ _ s;refine Calls.spliced_cons (thn (ha pins s σ H _ I h) fun u s1 hhx=>?_);obtain ⟨x,H1,I1,r1,q1⟩:=hhx;exact thn (hr pos pins s1 σ H1 _ I1 q1) fun us s2 ⟨xs,H2,I2,r2,q2⟩=>zAA (x::xs) H2 I2 (.cons r1 r2) q2
def J7(t:TA):TE:=fun σ H Q=>t σ H fun xs H1=>xs.length<=sizeLine/\∀p,H1 p=none->Q (.ref p) (upd H1 p (.tup xs))
def J4(t:TA):TE:=fun σ H Q=>t σ H fun xs H1=>xs.length<=sizeLine/\∀p,H1 p=none->Q (.ref p) (upd H1 p (.lst xs))
end
abbrev Sp:=List V->Hp->VK->XK->Prop
abbrev CXT:=List Env->Hp->Shared->XK->Value->Shared->Prop
structure Env0(P:Program)(w:World)(K:W.Frag)(mg:Str->Option Value)(base:Heap)(A:Around)(outer:List Env)(s:Shared)(H:Hp):Prop where
 frames:A.frames=some outer
 mod:Mod K mg base
 bs:∀b o,base.get? b=some o->s.heap.get? b=some o/\H b=none
 bsz:base.objs.size<=s.heap.objs.size
 funs:s.heap.FunFrames base outer
 frf:∀b∈frs outer,H b=none
 hok:HOk P w H s.heap
 bare:AllBare s.gens
def CE(outer:List Env)(P:Program)(w:World)(H:Hp)(s:Shared)(Q:VK)(u:Value)(s':Shared):Prop:=
 ∃v H',s'.os=s.os/\AllBare s'.gens/\Un (frs outer) [] H H' s.heap s'.heap/\HOk P w H' s'.heap/\RelV v u/\Q v H'
def CR(CX:CXT)(outer:List Env)(P:Program)(w:World)(H:Hp)(s:Shared)(Q:VK)(E:XK)(r:Result)(s':Shared):Prop:=
 match r with
 | .ok (.ret u)=>CE outer P w H s Q u s'
 | .ok _=>False
 | .error e=>CX outer H s E e s'
structure FnOk(P:Program)(w:World)(K:W.Frag)(mg:Str->Option Value)(base:Heap)(CX:CXT)(k:Nat)(f:Addr)(fd:FuncData)(ps:List Str)(sp:Sp):Prop where
 len:∀vs H Q E,sp vs H Q E->vs.length=ps.length
 run:∀(A:Around)(outer:List Env)(s:Shared)(H:Hp)(args:Args)(us:List Value)(vs:List V)(Q:VK)(E:XK),Room k A->Env0 P w K mg base A outer s H->BindsTo s fd args (ps.zip us)->Vals vs us->sp vs H Q E->
  codeAny (model P w) A (.call (.ref f) args) (CR CX outer P w H s Q E) s
theorem FnOk.mono{P:Program}{w:World}{K:W.Frag}{mg:Str->Option Value}{base:Heap}{CX:CXT}{j k:Nat}{f:Addr}{fd:FuncData}{ps:List Str}{sp:Sp}(F:FnOk P w K mg base CX j f fd ps sp)(h:j<=k):
  FnOk P w K mg base CX k f fd ps sp:=⟨F.len,fun A outer s H args us vs Q E hr=>F.run A outer s H args us vs Q E (hr.mono h)⟩
theorem Env0.make{P:Program}{w:World}{K:W.Frag}{mg:Str->Option Value}{base:Heap}{A:Around}{outer:List Env}{s:Shared}{H:Hp}(e:Env0 P w K mg base A outer s H)(C:Addr)(us:List Value)(kw:List (Str×Value)):
  Env0 P w K mg base (A.under (.builtin "type.__call__" ⟨.ref C::us,kw⟩)) outer s H:=⟨by first | exact e.frames | (simpa [Around.under,Code.envs,Code.isFrame,pushEnvs] using e.frames),e.mod,e.bs,e.bsz,e.funs,e.frf,e.hok,e.bare⟩
section
variable {X:Cx} {pins:List (Addr×Obj)} {σ:St} {H:Hp} {s s':Shared}
theorem Inv.env0(I:Inv X pins σ H s):Env0 X.prog X.w X.K X.mg X.base X.A X.stack s H:=
 ⟨I.ok.frames,I.ok.mod,I.bs,dX I.ok.bsz I.sz,I.stack,I.stkFree,I.hok,I.bare⟩
theorem Inv.after{Q:VK}{u:Value}(I:Inv X pins σ H s)(h:CE X.stack X.prog X.w H s Q u s'):EP X pins σ Q u s':=by obtain ⟨v,H',os,bare,un,hok,r,q⟩:=h;obtain ⟨hh,g,d,t,os'⟩:=s';obtain rfl:os'=s.os:=os;exact zAA v H' (I.call (h':=hh) (g':=g) (d':=d) (t':=t) (ch:=[]) un hok bare (fun b z=>absurd z Jll)) r q
end
def q9(sp:Sp)(dvs:List V)(E:XK)(t:TA):TE:=fun σ H Q=>t σ H fun vs H1=>sp (vs++dvs) H1 Q E
def i9(C:Addr)(m:Str)(sp:Sp)(dvs:List V)(E:XK)(ta:TE)(t:TA):TE:=fun σ H Q=>ta σ H fun x H1=>∃a dx fs,x=.ref a/\H1 a=some (.ins C dx fs)/\fs.lookup m=none/\
 t σ H1 fun vs H2=>sp (x::(vs++dvs)) H2 Q E
def kz(C:Addr)(sp:Sp)(dvs:List V)(E:XK)(t:TA):TE:=fun σ H Q=>t σ H fun vs H1=>∀x dx,H1 x=none->H1 dx=none->dx≠x->
 sp (.ref x::(vs++dvs)) (upd (upd H1 dx (.own x)) x (.ins C dx [])) (fun v H2=>v=.non/\Q (.ref x) H2) E
def Binds(K:W.Frag)(fd:FuncData)(ps:List Str)(ds:List Value):Prop:=
 ∀(s:Shared)(us:List Value),K.In s.heap->(us++ds).length=ps.length->BindsTo s fd ⟨us,[]⟩ (ps.zip (us++ds))
theorem Binds.all{K:W.Frag}{fd:FuncData}{ps:List Str}(h:∀us:List Value,us.length=ps.length->bindArgs fd ⟨us,[]⟩=pure (ps.zip us)):Binds K fd ps []:=fun s us _ hl=>by rw [g9] at hl ⊢;exact .of_eq (h us hl)
def eU(CX:CXT)(X:Cx)(E:XK):Prop:=∀(pins:List (Addr×Obj)) (σ:St) (H:Hp) (s:Shared) (e:Value) (s':Shared),Inv X pins σ H s->CX X.stack H s E e s'->X.xe e s'
section
variable {X:Cx} {CX:CXT} {k:Nat} {f C:Addr} {fd:FuncData} {ps:List Str} {sp:Sp} {dvs:List V} {ds:List Value} {E:XK} {x m:Str} {p pos apos:Pos} {e o:Expr} {es:List Expr} {ta:TE} {t:TA}
theorem rZ{pins:List (Addr×Obj)}{σ:St}{H:Hp}{s:Shared}{Q:VK}{us:List Value}{vs:List V}(F:FnOk X.prog X.w X.K X.mg X.base CX k f fd ps sp)(hr:Room k X.A)(hb:Binds X.K fd ps ds)(hd:Vals dvs ds)(hx:eU CX X E)
  (I:Inv X pins σ H s) (r:Vals vs us) (h:sp (vs++dvs) H Q E):wpAny (model X.prog X.w) X.A (call (.ref f) us) (EP X pins σ Q) X.xe s:=by
 have r2:Vals (vs++dvs) (us++ds):=r.append hd;have hl:(us++ds).length=ps.length:=by rw [<- r2.length];exact F.len _ _ _ _ h
 refine wpAny_call (codeAny_mono (F.run X.A X.stack s H ⟨us,[]⟩ (us++ds) (vs++dvs) Q E hr I.env0 (hb s us I.kIn hl) r2 h) fun r s' hq=>?_)
 cases r with
 |error e=>exact hx pins σ H s e s' I hq
 |ok fl=>
  cases fl with
  |ret u=>exact I.after hq
  |next=>exact False.elim hq
  |brk=>exact False.elim hq
  |cont=>exact False.elim hq
theorem C4(F:FnOk X.prog X.w X.K X.mg X.base CX k f fd ps sp)(hr:Room k X.A)(hg:Gl X x)(hm:X.mg x=some (.ref f))(hk:W.keepIn X.K (.ref f)=true)(hb:Binds X.K fd ps ds)(hd:Vals dvs ds)(hx:eU CX X E)
  (ha:PA X (e::es) t) (hdb:(x==("__debug__":Str))=false:=by decide) (he:starEach (e::es) X.env=(false,eval e X.env)::starEach es X.env:=by rfl) (hpl:(backTo pos (starEach es X.env)).any (·.1)=false:=by rfl) :
  PE X (.Call (.Name x p) (e::es) [] pos) (q9 sp dvs E t):=by
 intro pins s σ H Q I h;refine wpAny_Call_Name_kw (gW I hg hm ?_ hdb);refine W.callWith_K (h₀:=X.base) I.ok.mod.kin hk (thn (ha pos pins s σ H _ I h) fun us s1 ⟨vs,H1,I1,r,q⟩=>⟨I1.kIn,?_⟩) he hpl;exact rZ F hr hb hd hx I1 r q
theorem uh{pl:Sem Bool}(he:PE X o ta)(c:Cls X.K C)(hm:vt X.K C m f)(F:FnOk X.prog X.w X.K X.mg X.base CX k f fd ps sp)(hr:Room k X.A)(hb:Binds X.K fd ps ds)(hd:Vals dvs ds)(hx:eU CX X E)(ha:PA X (e::es) t)
  (hst:starEach (e::es) X.env=(false,eval e X.env)::starEach es X.env:=by rfl) (hpl:(backTo pos (starEach es X.env)).any (·.1)=false:=by rfl)
  (ht:eval (.Call (.Attribute o m apos) (e::es) [] pos) X.env=(do
   let ov <- eval o X.env
   standAt apos.atName
   let (f,first) <- holding [ov] (getMethod ov m pl)
   callWith pos f first (backTo pos (starEach (e::es) X.env)) (backToKw pos (keywordEach [] X.env))):=by rfl) :
  PE X (.Call (.Attribute o m apos) (e::es) [] pos) (i9 C m sp dvs E ta t):=by
 intro pins s σ H Q I h;refine W.methodCall_KW (pl:=pl) (thn (he pins s σ H _ I h) fun u s1 hhx=>?_) ht;obtain ⟨x,H1,I1,rx,a,dx,fs,ex,ea,l,q⟩:=hhx;subst ex;obtain rfl:u=Value.ref a:=rx;refine gx I1 ea c hm l ?_;refine W.callWith_K (first:=[.ref a]) (h₀:=X.base) I.ok.mod.kin hm.kp (thn (ha pos pins s1 σ H1 _ I1 q) fun us s2 ⟨vs,H2,I2,r,q2⟩=>⟨I2.kIn,?_⟩) hst hpl;exact rZ (us:=.ref a::us) (vs:=.ref a::vs) F hr hb hd hx I2 (.cons rfl r) q2
theorem yO{pl:Sem Bool}(he:PE X o ta)(c:Cls X.K C)(hm:vt X.K C m f)(F:FnOk X.prog X.w X.K X.mg X.base CX k f fd ps sp)(hr:Room k X.A)(hb:Binds X.K fd ps ds)(hd:Vals dvs ds)(hx:eU CX X E)
  (ht:eval (.Call (.Attribute o m apos) [] [] pos) X.env=(do
   let ov <- eval o X.env
   standAt apos.atName
   let (f,first) <- holding [ov] (getMethod ov m pl)
   callWith pos f first (backTo pos (starEach [] X.env)) (backToKw pos (keywordEach [] X.env))):=by rfl) :
  PE X (.Call (.Attribute o m apos) [] [] pos) (i9 C m sp dvs E ta qa):=by
 intro pins s σ H Q I h;refine W.methodCall_KW (pl:=pl) (thn (he pins s σ H _ I h) fun u s1 hhx=>?_) ht;obtain ⟨x,H1,I1,rx,a,dx,fs,ex,ea,l,q⟩:=hhx;subst ex;obtain rfl:u=Value.ref a:=rx;refine gx I1 ea c hm l ?_;exact W.callWith_K0 (first:=[.ref a]) I1.kIn hm.kp (rZ (us:=[.ref a]) (vs:=[.ref a]) F hr hb hd hx I1 (.cons rfl .nil) q)
structure Mk(K:W.Frag)(C f:Addr):Prop where
 makes:W.makesIn K C=true
 init:W.findIn K (.ref C) "__init__"=some (some (.ref f))
 fn:W.isFn K (.ref f)=true
 kp:W.keepIn K (.ref C)=true
theorem pF{pins:List (Addr×Obj)}{σ:St}{H:Hp}{s:Shared}{Q:VK}{us:List Value}{vs:List V}(M:Mk X.K C f)(F:FnOk X.prog X.w X.K X.mg X.base CX k f fd ps sp)(hr:Room (k+1) X.A)(hb:Binds X.K fd ps ds)(hd:Vals dvs ds)
  (hx:eU CX X E) (I:Inv X pins σ H s) (r:Vals vs us)
  (h:∀x dx,H x=none->H dx=none->dx≠x->sp (.ref x::(vs++dvs)) (upd (upd H dx (.own x)) x (.ins C dx [])) (fun v H2=>v=.non/\Q (.ref x) H2) E) :
  wpAny (model X.prog X.w) X.A (call (.ref C) us) (EP X pins σ Q) X.xe s:=by
 have hq:=h (s.heap.objs.size+1) s.heap.objs.size (I.hok.fresh (x9 _)) (I.hok.fresh (zq6 _)) (cf (x8 _));have I2:=Inv.made (C:=C) I;have r2:Vals (V.ref (s.heap.objs.size+1)::(vs++dvs)) (Value.ref (s.heap.objs.size+1)::(us++ds)):=.cons rfl (r.append hd);have hl:(Value.ref (s.heap.objs.size+1)::us++ds).length=ps.length:=by have e:=r2.length;rw [F.len _ _ _ _ hq] at e;exact e.symm
 refine wpAny_call (yb (f:=f) I.kIn M.makes M.init (zq57.mp M.fn) (codeAny_mono (F.run _ X.stack _ _ ⟨Value.ref (s.heap.objs.size+1)::us,[]⟩ (Value.ref (s.heap.objs.size+1)::(us++ds)) _ _ E (hr.make C us [])
  (I2.env0.make C us []) (hb _ (Value.ref (s.heap.objs.size+1)::us) I2.kIn hl) r2 hq) fun r s' hq'=>?_))
 cases r with
 |error e=>exact hx pins σ _ _ e s' I2 hq'
 |ok fl=>
  cases fl with
  |ret u=>
   obtain ⟨v,H',I3,rv,ev,q3⟩:=I2.after hq';subst ev;exact ⟨rv,zAA (V.ref (s.heap.objs.size+1)) H' I3 rfl q3⟩
  |next=>exact False.elim hq'
  |brk=>exact False.elim hq'
  |cont=>exact False.elim hq'
theorem C6(M:Mk X.K C f)(F:FnOk X.prog X.w X.K X.mg X.base CX k f fd ps sp)(hr:Room (k+1) X.A)(hg:Gl X x)(hm:X.mg x=some (.ref C))(hb:Binds X.K fd ps ds)(hd:Vals dvs ds)(hx:eU CX X E)
  (ha:PA X (e::es) t) (hdb:(x==("__debug__":Str))=false:=by decide) (he:starEach (e::es) X.env=(false,eval e X.env)::starEach es X.env:=by rfl) (hpl:(backTo pos (starEach es X.env)).any (·.1)=false:=by rfl) :
  PE X (.Call (.Name x p) (e::es) [] pos) (kz C sp dvs E t):=by
 intro pins s σ H Q I h;refine wpAny_Call_Name_kw (gW I hg hm ?_ hdb);refine W.callWith_K (h₀:=X.base) I.ok.mod.kin M.kp (thn (ha pos pins s σ H _ I h) fun us s1 ⟨vs,H1,I1,r,q⟩=>⟨I1.kIn,?_⟩) he hpl;exact pF M F hr hb hd hx I1 r q
theorem yN(M:Mk X.K C f)(F:FnOk X.prog X.w X.K X.mg X.base CX k f fd ps sp)(hr:Room (k+1) X.A)(hg:Gl X x)(hm:X.mg x=some (.ref C))(hb:Binds X.K fd ps ds)(hd:Vals dvs ds)(hx:eU CX X E)
  (hdb:(x==("__debug__":Str))=false:=by decide):PE X (.Call (.Name x p) [] [] pos) (kz C sp dvs E qa):=by
 intro pins s σ H Q I h;refine wpAny_Call_Name_kw (gW I hg hm ?_ hdb);exact W.callWith_K0 I.kIn M.kp (pF (us:=[]) M F hr hb hd hx I .nil h)
end
section
variable {X:Cx} {CX:CXT} {k:Nat} {f C:Addr} {fd:FuncData} {ps ks:List Str} {sp:Sp} {E:XK} {x m:Str} {p pos apos kpos:Pos} {e o:Expr} {es:List Expr} {kws:List Keyword} {te ta:TE} {t tk:TA} {nm:Option Str}
variable {g:List Value->List Value->List Value} {gV:List V->List V->List V}
end
structure aG(N P:List Str)(sc:Scope):Prop where
 kind:sc.kind=.function
 co:sc.isCoroutine=false
 gen:sc.isGenerator=false
 nd:N.Nodup
 pre:N.take P.length=P
 par:∀x∈P,sc.names.lookup x=some .local\/sc.names.lookup x=some .cell
 nofree:∀y∈sc.names,y.2≠.free
theorem kY{kindOf:Str->Option NameKind}{x:Str}:∀{binds:List (Str×Value)} {m:Str->Option Value},(∀v,(x,v)∉binds)->bindL kindOf binds m x=m x
 | [],_,_=>rfl
 | (n,v)::r,m,h=>by
  unfold bindL;rw [kY fun w hw=>h w (b7 _ hw)]
  split
  ·have:x≠n:=by rintro rfl;exact h v cN
   simp [this]
  ·rfl
theorem kW{kindOf:Str->Option NameKind}{x:Str}:∀{binds:List (Str×Value)} {m:Str->Option Value},(∀v,(x,v)∉binds)->bindC kindOf binds m x=m x
 | [],_,_=>rfl
 | (n,v)::r,m,h=>by
  unfold bindC;rw [kW fun w hw=>h w (b7 _ hw)]
  split
  ·rfl
  ·have:x≠n:=by rintro rfl;exact h v cN
   simp [this]
theorem kX{kindOf:Str->Option NameKind}{x:Str}{v:Value}:∀{P:List Str} {vs:List Value} {i:Nat} {m:Str->Option Value},P.Nodup->P[i]?=some x->vs[i]?=some v->kindOf x=some .local->
  bindL kindOf (P.zip vs) m x=some v
 | [],_,_,_,_,h,_,_=>by simp at h
 |_::_,[],_,_,_,_,h,_=>by simp at h
 |p::P,w::vs,0,m,nd,h1,h2,hk=>by
  simp at h1 h2;subst h1;subst h2;show bindL kindOf ((p,w)::P.zip vs) m p=_;unfold bindL;rw [kY fun v hv=>(zq42.mp nd).1 (Ar hv).1,zq2 hk];simp
 |p::P,w::vs,i+1,m,nd,h1,h2,hk=>by show bindL kindOf ((p,w)::P.zip vs) m x=_;unfold bindL;exact kX (i:=i) (zq42.mp nd).2 (by simpa using h1) (by simpa using h2) hk
theorem kU{kindOf:Str->Option NameKind}{x:Str}{v:Value}:∀{P:List Str} {vs:List Value} {i:Nat} {m:Str->Option Value},P.Nodup->P[i]?=some x->vs[i]?=some v->kindOf x≠some .local->
  bindC kindOf (P.zip vs) m x=some v
 | [],_,_,_,_,h,_,_=>by simp at h
 |_::_,[],_,_,_,_,h,_=>by simp at h
 |p::P,w::vs,0,m,nd,h1,h2,hk=>by
  simp at h1 h2;subst h1;subst h2;show bindC kindOf ((p,w)::P.zip vs) m p=_;unfold bindC;rw [kW fun v hv=>(zq42.mp nd).1 (Ar hv).1,zq1 hk];simp
 |p::P,w::vs,i+1,m,nd,h1,h2,hk=>by show bindC kindOf ((p,w)::P.zip vs) m x=_;unfold bindC;exact kU (i:=i) (zq42.mp nd).2 (by simpa using h1) (by simpa using h2) hk
def aP(N:List Str)(vs:List V):St:=vs.map some++List.replicate (N.length-vs.length) none
def oh(CX:CXT)(P:Program)(w:World)(K:W.Frag)(mg:Str->Option Value)(base:Heap)(N:List Str)(qual:Str)(scope:Scope)(f:Addr)(cd:Value)(A:Around)(outer:List Env)(s:Shared)(H:Hp)(E:XK):Cx where
 prog:=P
 w:=w
 K:=K
 mg:=mg
 base:=base
 A:=A.deeper (envOfC qual scope s.heap.objs.size f cd)
 N:=N
 s₀:=s
 H₀:=H
 env:=envOfC qual scope s.heap.objs.size f cd
 outer:=outer
 stack:=envOfC qual scope s.heap.objs.size f cd::outer
 ex:=[]
 calm:=true
 fn:=fun _=>true
 pn:=[]
 xe:=fun e s'=>wpAny (model P w) (A.deeper (envOfC qual scope s.heap.objs.size f cd)) (leaving (envOfC qual scope s.heap.objs.size f cd) e) (fun _ s''=>CX outer H s E e s'') (fun e' s''=>CX outer H s E e' s'') s'
theorem nV{sc:Scope}{n:Nat}{x:Str}(h:sc.names.lookup x=some .cell):∃c,(cellsFrom n sc.names []).lookup x=some c:=by have q:=W.cellsFrom_some sc.names n [] (.inl h);exact Option.isSome_iff_exists.mp q
theorem vR{CX:CXT}{P:Program}{w:World}{K:W.Frag}{mg:Str->Option Value}{base:Heap}{N ps:List Str}{qual:Str}{scope:Scope}{f:Addr}{cd:Value}{A:Around}{outer:List Env}{s s1:Shared}{H:Hp}{E:XK}{us:List Value}{vs:List V}
  (S:aG N ps scope) (hd:A.handled=none) (e0:Env0 P w K mg base A outer s H) (hl:vs.length=ps.length) (r:Vals vs us)
  (x:InCallC s s.heap.objs.size (bindL (envOfC qual scope s.heap.objs.size f cd).kindOf (ps.zip us) fun _=>none) (cellsFrom (s.heap.objs.size+1) scope.names []) (bindC (envOfC qual scope s.heap.objs.size f cd).kindOf (ps.zip us) fun _=>none) s1) :
  Inv (oh CX P w K mg base N qual scope f cd A outer s H E) [] (aP N vs) H s1:=by
 have hpl:ps.length<=N.length:=by have:=congrArg List.length S.pre;rw [dY] at this;omega
 obtain ⟨h1,tk,rfl,hk⟩:=x.done;have noA:∀b:Addr,b∉(oh CX P w K mg base N qual scope f cd A outer s H E).ex:=fun b z=>absurd (show b∈([]:List Addr) from z) Jll;refine ⟨⟨e0.mod,S.kind,rfl,rfl,zq6 _,fun y z c h1 h2=>?_,fun y hy=>?_,fun y c _ h=>?_,fun _=>hd,Around.frames_deeper e0.frames,.inr ⟨rfl,rfl⟩,fun b z=>absurd z (noA b),e0.bs,e0.bsz,fun b _ _=>noA b,fun b z=>absurd z (noA b),e0.funs,e0.frf⟩,
  rfl,e0.bare,Un.kept hk,zn _ x.toInCall.ns fun i y v h1 h2 h3=>?_,fun y c h=>⟨_,x.cell y c h⟩,e0.hok.fresh (zq6 _),fun y c h=>?_,fun p hp=>absurd (show p∈([]:List (Addr×Obj)) from hp) Jll,e0.hok.kept hk,?_⟩
 ·exact name_of_addr x.apart (PySem.mem_of_lookup h1) (PySem.mem_of_lookup h2)
 ·have hy:scope.names.lookup y=some .cell\/scope.names.lookup y=some .free:=hy;rcases hy with hy | hy
  ·exact nV hy
  ·exact absurd rfl (S.nofree _ (PySem.mem_of_lookup hy))
 ·exact va (x.above y c (PySem.mem_of_lookup h))
 ·have hi:i<vs.length:=by
   unfold aP at h2
   by_cases hi:i<vs.length
   ·exact hi
   ·rw [gG (by simpa using hi)] at h2;rw [AX] at h2
    split at h2<;>cases h2
  have ha:vs[i]?=some v:=by
   unfold aP at h2;rw [gH (by simpa using hi),bq] at h2
   cases e:vs[i]? with
   |none=>rw [e] at h2;cases h2
   |some a=>rw [e] at h2;cases h2;rfl
  obtain ⟨u,hu,rv⟩:=r.get ha;have hp:ps[i]?=some y:=by rw [<- S.pre,List.getElem?_take_of_lt Jlk];exact h1
  have ndP:ps.Nodup:=by rw [<- S.pre];exact S.nd.sublist (List.take_sublist _ _)
  refine zn u rv ?_;rcases S.par y (bg hp) with k | k
  ·exact .inl ⟨k,kX ndP hp hu k⟩
  ·obtain ⟨c,e⟩:=nV (n:=s.heap.objs.size+1) k;refine .inr ⟨.inl k,zn c e ?_⟩;have q:=x.cell y c e;rw [kU ndP hp hu (by show scope.names.lookup y≠_;rw [k];decide)] at q;exact q
 ·exact e0.hok.fresh (va (x.above y c (PySem.mem_of_lookup h)))
 ·unfold aP;show _=N.length;rw [zq8,zq4,vd];omega
theorem Hw{CX:CXT}{P:Program}{w:World}{K:W.Frag}{mg:Str->Option Value}{base:Heap}{k:Nat}{f:Addr}{name qual:Str}{params:Arguments}{body:List Stmt}{scope:Scope}{dV kV doc pm cdv ct oc:Value}{an od:Option Addr}
  {osl:Array (Option Value)} {N ps:List Str} {sp:Sp} (lk:K.lookup f=some ⟨oc,od,.func (W.fnOf name qual params body scope dV kV doc pm an cdv ct),osl⟩) (hcd:W.codeIn K cdv qual=true) (S:aG N ps scope)
  (len:∀vs H Q E,sp vs H Q E->vs.length=ps.length)
  (hbody:∀(A:Around)(outer:List Env)(s:Shared)(H:Hp)(vs:List V)(Q:VK)(E:XK),Room k (A.deeper (envOfC qual scope s.heap.objs.size f cdv))->sp vs H Q E->
   ∃t,PSs (oh CX P w K mg base N qual scope f cdv A outer s H E) body t/\t {nx:=fun _ H'=>Q .non H',rt:=Q} (aP N vs) H) :
  FnOk P w K mg base CX (k+1) f (W.fnOf name qual params body scope dV kV doc pm an cdv ct) ps sp:=by
 refine ⟨len,fun A outer s H args us vs Q E hr e0 hb r hsp=>?_⟩;have hl:=len _ _ _ _ hsp;have KX:K.In s.heap:=e0.mod.kin.keeps fun b o e=>(e0.bs b o e).1;have lim:s.heap.NoLimit:=e0.mod.nolimit.keeps fun b o e=>(e0.bs b o e).1;have hkind:∀y∈ps.zip us,scope.names.lookup y.1=some .local\/(scope.names.lookup y.1=some .cell/\((cellsFrom (s.heap.objs.size+1) scope.names []).lookup y.1).isSome=true):=fun ⟨n,v⟩ hy=>by
  rcases S.par n (Ar hy).1 with q | q
  ·exact .inl q
  ·exact .inr ⟨q,W.cellsFrom_some _ _ _ (.inl q)⟩
 refine codeAny_call_function hr.depth (KX _ _ lk) rfl S.co S.gen rfl (W.codeRec_of KX hcd) (hb _ _ _ _ ?_);refine wpAny_newFunctionEnv_cells S.kind hkind fun env he s1 x=>?_;subst he;refine ⟨lim.keeps x.toInCall.keep,codeAny_func ?_⟩;obtain ⟨t,ht,hq⟩:=hbody A outer s H vs Q E (hr.deeper _) hsp;have I:Inv (oh CX P w K mg base N qual scope f cdv A outer s H E) [] (aP N vs) H s1:=vR S hr.hd e0 hl r x;refine ij (ht [] s1 (aP N vs) H _ I hq) (fun fl s' hs=>?_) fun e s' hs=>hs;have fin:∀{σ':St} {H':Hp} {v:V} {u:Value},Inv (oh CX P w K mg base N qual scope f cdv A outer s H E) [] σ' H' s'->RelV v u->Q v H'->CE outer P w H s Q u s':=
  fun {σ' H' v u} J rv q=>zAZ v H' J.os J.bare J.base J.hok rv q
 cases fl with
 |ret u=>
  obtain ⟨v,σ',H',J,rv,q⟩:=hs;exact fin J rv q
 |next=>
  obtain ⟨σ',H',J,q⟩:=hs;exact fin (v:=V.non) (u:=Value.none) J rfl q
 |brk=>
  obtain ⟨_,_,_,q⟩:=hs;exact False.elim q
 |cont=>obtain ⟨_,_,_,q⟩:=hs;exact False.elim q
end L2
namespace L2
section
variable {X:Cx} {x:Str} {p pos:Pos} {e:Expr} {es:List Expr} {t:TA} {id T:String} {r:List V->Hp->VK->Prop}
def tCB(r:List V->Hp->VK->Prop)(t:TA):TE:=fun σ H Q=>t σ H fun vs H1=>r vs H1 Q
theorem yH(hc:dM X (.builtin id) r)(hg:Gl X x)(hm:X.mg x=none)(hv:bootBuiltins x=some (.builtin id))(ha:PA X (e::es) t)(hn:x≠"__name__":=by decide) (hdb:(x==("__debug__":Str))=false:=by decide)
  (he:starEach (e::es) X.env=(false,eval e X.env)::starEach es X.env:=by rfl) (hpl:(backTo pos (starEach es X.env)).any (·.1)=false:=by rfl):PE X (.Call (.Name x p) (e::es) [] pos) (tCB r t):=by
 intro pins s σ H Q I h;refine wpAny_Call_Name_kw (dP I hg hm hv ?_ hn hdb);exact PyProof.Rows.callWith_builtin1 (thn (ha pos pins s σ H _ I h) fun us s1 ⟨vs,H1,I1,r1,q1⟩=>hc pins s1 σ H1 vs us Q I1 r1 q1) he hpl
theorem wn(hc:dM X (.type T) r)(hg:Gl X x)(hm:X.mg x=none)(hv:bootBuiltins x=some (.type T))(ha:PA X (e::es) t)(hn:x≠"__name__":=by decide) (hdb:(x==("__debug__":Str))=false:=by decide)
  (he:starEach (e::es) X.env=(false,eval e X.env)::starEach es X.env:=by rfl) (hpl:(backTo pos (starEach es X.env)).any (·.1)=false:=by rfl):PE X (.Call (.Name x p) (e::es) [] pos) (tCB r t):=by
 intro pins s σ H Q I h;refine wpAny_Call_Name_kw (dP I hg hm hv ?_ hn hdb);exact PyProof.Rows.callWith_type1 (thn (ha pos pins s σ H _ I h) fun us s1 ⟨vs,H1,I1,r1,q1⟩=>hc pins s1 σ H1 vs us Q I1 r1 q1) he hpl
end
end L2
end
namespace HT
open PySem PyProof.Rows
section
open PySem.SeqAt
open PySem.AutoSeq1 (wpAny_loadPart')
open PySem.MeetsSeq PySem.MeetsSeq2 PySem.MeetsSeq3
end
section
variable {prog:Program} {w:World} {A:Around} {E:Value->Shared->Prop} {s:Shared}
def sIx(n d:Nat):Option Int->Nat
 |none=>d
 |some v=>if v<0 then (v+(n:Int)).toNat else min v.toNat n
theorem pG(n d:Nat):sIx n d none=d:=rfl
theorem mW(n d k:Nat):sIx n d (some (k:Int))=min k n:=by show (if (k:Int)<0 then ((k:Int)+(n:Int)).toNat else min (k:Int).toNat n)=min k n;rw [zq1 Jlk,kE]
theorem Gr(n d:Nat)(hd:d<=n)(o:Option Int):sIx n d o<=n:=by
 cases o with
 |none=>exact hd
 |some v=>
  show (if v<0 then (v+(n:Int)).toNat else min v.toNat n)<=n
  by_cases hv:v<0
  ·rw [zq2 hv];omega
  ·rw [zq1 hv];exact Nat.min_le_right _ _
theorem tF(v:Int)(n d:Nat):(if v<0 then max (v+(n:Int)) 0 else min v (n:Int))=((sIx n d (some v):Nat):Int):=by
 show (if v<0 then max (v+(n:Int)) 0 else min v (n:Int))=(((if v<0 then (v+(n:Int)).toNat else min v.toNat n):Nat):Int)
 by_cases hv:v<0
 ·simp only [if_pos hv];omega
 ·simp only [if_neg hv];omega
theorem qN(lo hi:Option Int)(n:Nat):Builtin.Slice.sliceAdjust lo hi 1 (n:Int)=(((sIx n 0 lo:Nat):Int),((sIx n n hi:Nat):Int)):=by
 have h1:¬((1:Int)<0):=by omega
 unfold Builtin.Slice.sliceAdjust;simp only [h1,if_false];refine Prod.ext ?_ ?_
 ·cases lo with
  |none=>rfl
  |some v=>exact tF v n 0
 ·cases hi with
  |none=>rfl
  |some v=>exact tF v n n
theorem rP(i j:Nat):Builtin.Slice.slicePlaces (i:Int) (j:Int) 1=j-i:=by
 unfold Builtin.Slice.slicePlaces;have h1:(1:Int)>0:=by omega
 simp only [h1,if_true,Int.ediv_one]
 split<;>omega
theorem kh{v:Value}{o:Option Int}{Q:Option Int->Shared->Prop}(p:IsPart v o)(h:Q o s):wpAny (model prog w) A (Builtin.Slice.slicePartIndex v) Q E s:=by
 cases p with
 |none=>exact slicePart_none h
 |int i t=>exact slicePart_int h
theorem iD{sl:Addr}{vl vu:Value}{lo hi:Option Int}{n:Nat}{Q:Int×Int×Nat->Shared->Prop}(hs:s.heap.IsSliceOf sl vl vu .none)(pl:IsPart vl lo)(pu:IsPart vu hi)
  (h:Q (((sIx n 0 lo:Nat):Int),1,sIx n n hi-sIx n 0 lo) s):wpAny (model prog w) A (Builtin.Slice.sliceApplied (.ref sl) (pure (n:Int))) Q E s:=by
 obtain ⟨os,hos,hcs,hds⟩:=id hs;unfold Builtin.Slice.sliceApplied Builtin.Slice.sliceFields;refine zq0 (zq0 (wpAny_field hos hds (x:=vl) rfl (zq0 (wpAny_field hos hds (x:=vu) rfl (zq0 (wpAny_field hos hds (x:=.none) rfl (zq3 ?_)))))));refine zq0 (slicePart_none ?_);show wpAny _ _ (if ((1:Int)==0)=true then _ else _) _ _ s;rw [zq1 Jkm];refine zq0 (kh pl (zq0 (kh pu (zq0 (zq3 ?_)))));show wpAny _ _ (match Builtin.Slice.sliceAdjust lo hi 1 (n:Int) with | (lo,hi)=>pure (lo,(1:Int),Builtin.Slice.slicePlaces lo hi 1)) _ _ s;rw [qN lo hi n];show wpAny _ _ (pure (((sIx n 0 lo:Nat):Int),(1:Int),Builtin.Slice.slicePlaces ((sIx n 0 lo:Nat):Int) ((sIx n n hi:Nat):Int) 1)) _ _ s;rw [rP];exact zq3 h
theorem yR(xs:Array Value)(i k:Nat):((List.range k).filterMap fun (m:Nat)=>xs[((i:Int)+(m:Int) * 1).toNat]?).toArray=((xs.toList.drop i).take k).toArray:=by
 have e:(fun (m:Nat)=>xs[((i:Int)+(m:Int) * 1).toNat]?)=fun m=>xs[i+m]?:=by
  funext m
  have:((i:Int)+(m:Int) * 1).toNat=i+m:=by omega
  rw [this]
 rw [e];have:=pick_run xs i k;rw [List.filterMap_map] at this;have e2:((fun x=>xs[x]?) ∘ fun x=>i+x)=fun m=>xs[i+m]?:=rfl;rw [e2] at this;rw [this]
theorem gS{t sl:Addr}{items:Array Value}{vl vu:Value}{lo hi:Option Int}{Q:Value->Shared->Prop}(ht:IsTup s.heap t items)(hs:s.heap.IsSliceOf sl vl vu .none)(pl:IsPart vl lo)(pu:IsPart vu hi)
  (hw:¬(sIx items.size 0 lo=0/\sIx items.size items.size hi=items.size))
  (h:Q (.ref s.heap.objs.size) {s with heap:=s.heap.push {cls:=.type "tuple",data:=.seq ((items.toList.drop (sIx items.size 0 lo)).take (sIx items.size items.size hi-sIx items.size 0 lo)).toArray}})
  (hsz:items.size<=sizeLine):wpAny (model prog w) A (getItem (.ref t) (.ref sl)) Q E s:=by
 have htake:sizeOk (.seq ((items.toList.drop (sIx items.size 0 lo)).take (sIx items.size items.size hi-sIx items.size 0 lo)).toArray):=by show ((items.toList.drop (sIx items.size 0 lo)).take (sIx items.size items.size hi-sIx items.size 0 lo)).toArray.size<=sizeLine;rw [dZ,dY,AY,ja];omega
 have hj:sIx items.size items.size hi<=items.size:=Gr _ _ (zq6 _) hi;obtain ⟨os,hos,hcs,hds⟩:=id hs;have hTs:s.TypeIs (.ref sl) "slice":=zn os hos hcs
 unfold getItem
 try with_reducible refine kD ?_
 first | refine zq0 (zq3 ?_) | skip
 refine zq0 (wpAny_sequenceKey ht.typeIs Jkm ?_);refine zq0 (wpAny_callSpecial?_slot (name:=Str.ofString "__getitem__") ht.typeIs PyProof.Rows.slot_tuple_getitem
  (wpAny_call_entry PyProof.Rows.slot_tuple_getitem ht.typeIs entry_tuple_getitem ?_ (args_tuple_getitem _ _)))
 show wpAny _ _ (Builtin.Tuple.tupleItemsOf (.ref t) >>= _) _ _ s;refine zq0 (tupleItemsOf_ ht ?_);refine zq0 (wpAny_typeOf hTs ?_);rw [zq2 Jkm];refine zq0 (iD hs pl pu ?_);have hno:¬((((sIx items.size 0 lo:Nat):Int)==0&&(1:Int)==1&&(sIx items.size items.size hi-sIx items.size 0 lo)==items.size)=true):=by intro q;rw [ee,ee] at q;have q1:((sIx items.size 0 lo:Nat):Int)=0:=eq_of_beq q.1.1;have q2:sIx items.size items.size hi-sIx items.size 0 lo=items.size:=eq_of_beq q.2;exact hw ⟨Jlk,Jlk⟩
 show wpAny _ _ (if (((sIx items.size 0 lo:Nat):Int)==0&&(1:Int)==1&&(sIx items.size items.size hi-sIx items.size 0 lo)==items.size)=true then _ else _) _ _ s;rw [zq1 hno,yR]
 first
  |exact zq0 (m:=Builtin.Tuple.tupleExact _) (wpAny_newObj_type (zq3 ⟨_,rfl,zq3 h⟩) htake)
  |exact zq0 (m:=Builtin.Tuple.tupleExact _) (wpAny_newObj_type (zq0 (zq3 (zq3 ⟨_,rfl,zq3 h⟩))) htake)
  |exact zq0 (zq0 (m:=Builtin.Tuple.tupleExact _) (wpAny_newObj_type (zq3 (zq3 ⟨_,rfl,zq3 h⟩)) htake))
  |exact zq0 (zq0 (m:=Builtin.Tuple.tupleExact _) (wpAny_newObj_type (zq3 ⟨_,rfl,zq3 h⟩) htake))
end
end HT
section
open PySem PySem.Spec PyProof.Rows
namespace L2
abbrev TO:=St->Hp->(Option Int->Hp->Prop)->Prop
def PO(X:Cx)(e:Option Expr)(t:TO):Prop:=
 ∀(pins:List (Addr×Obj)) (s:Shared) (σ:St) (H:Hp) (Q:Option Int->Hp->Prop),Inv X pins σ H s->t σ H Q->
  wpAny (model X.prog X.w) X.A (evalPart e X.env) (fun u s'=>∃o H',Inv X pins σ H' s'/\IsPart u o/\Q o H') X.xe s
def uW:TO:=fun _ H Q=>Q none H
def E4(t:TE):TO:=fun σ H Q=>t σ H fun x H1=>∃i,x=.int i/\Q (some i) H1
section
variable {X:Cx} {e:Expr} {te:TE} {lo hi:Option Expr} {tl th:TO} {pos p2:Pos}
def SlR(X:Cx)(r:V->Option Int->Option Int->Hp->VK->Prop):Prop:=
 ∀(pins:List (Addr×Obj)) (s:Shared) (σ:St) (H:Hp) (x:V) (v vl vu:Value) (lo hi:Option Int) (sl:Addr) (Q:VK),Inv X pins σ H s->RelV x v->s.heap.IsSliceOf sl vl vu .none->IsPart vl lo->IsPart vu hi->r x lo hi H Q->
  ∃T id,typeLookup (.type T) "__getitem__"=pure (some (.builtin id))/\s.TypeIs v T/\wpAny (model X.prog X.w) X.A (getItem v (.ref sl)) (EP X pins σ Q) X.xe s
def tSl(r:V->Option Int->Option Int->Hp->VK->Prop)(te:TE)(tl th:TO):TE:=fun σ H Q=>te σ H fun x H1=>tl σ H1 fun l H2=>th σ H2 fun u H3=>r x l u H3 Q
def g8(xs:List V)(lo hi:Option Int):List V:=(xs.drop (HT.sIx xs.length 0 lo)).take (HT.sIx xs.length xs.length hi-HT.sIx xs.length 0 lo)
theorem iL(xs:List V)(lo hi:Option Int):(g8 xs lo hi).length<=xs.length:=by unfold g8;rw [dY,AY];omega
def Id(K:W.Frag):V->Option Int->Option Int->Hp->VK->Prop:=fun x lo hi H Q=>∃a xs,x=.ref a/\SqT K H a xs/\
 ¬(HT.sIx xs.length 0 lo=0/\HT.sIx xs.length xs.length hi=xs.length)/\∀p,H p=none->Q (.ref p) (upd H p (.tup (g8 xs lo hi)))
theorem zJ:SlR X (Id X.K):=by
 intro pins s σ H x v vl vu lo hi sl Q I rx hs pl pu h;obtain ⟨a,xs,rfl,hx,hw,q⟩:=h
 cases rx
 obtain ⟨its,r,ht,hz⟩:=I.tuple hx;have hlen:its.toArray.size=xs.length:=by rw [dZ];exact r.length.symm
 refine zAA ("tuple") _ PyProof.Rows.slot_tuple_getitem.lookup ht.typeIs ?_;refine HT.gS ht hs pl pu (by rw [hlen];exact hw) ?_ (by rw [hlen];exact hz);rw [hlen];refine zAA (.ref s.heap.objs.size) _ (I.laid (t':=s.toks) (o:=.tup (g8 xs lo hi)) (fun b ob q=>bO _ q) (zq6 _) ?_) rfl (q _ (I.hok.fresh (zq6 _)));exact ⟨dX (iL xs lo hi) hz,zn _ ((r.drop (HT.sIx xs.length 0 lo)).take (HT.sIx xs.length xs.length hi-HT.sIx xs.length 0 lo)) (IsTup.new _ _)⟩
end
end L2
namespace L2
def ixN(n:Nat)(i:Int):Option Nat:=if 0<=i then (if i<n then some i.toNat else none) else if -(n:Int)<=i then some (i+n).toNat else none
def atI{α:Type}(xs:List α)(i:Int):Option α:=(ixN xs.length i).bind fun j=>xs[j]?
theorem u9{n:Nat}{i:Int}{j:Nat}(h:ixN n i=some j):seqIndex? i n=some j/\j<n/\-(n:Int)<=i/\i<n:=by
 unfold ixN at h
 by_cases h0:0<=i
 ·rw [zq2 h0] at h
  by_cases h1:i<n
  ·rw [zq2 h1] at h;have e:i.toNat=j:=Option.some.inj h;exact zAF (by rw [seqIndex_of h0 h1,e]) Jlk Jlk h1
  ·rw [zq1 h1] at h;cases h
 ·rw [zq1 h0] at h
  by_cases h1:-(n:Int)<=i
  ·rw [zq2 h1] at h;have e:(i+n).toNat=j:=Option.some.inj h;exact zAF (by rw [seqIndex_neg Jlk h1,e]) Jlk h1 Jlk
  ·rw [zq1 h1] at h;cases h
theorem mm{α:Type}{xs:List α}{i:Int}{v:α}(h:atI xs i=some v):∃j,seqIndex? i xs.length=some j/\xs[j]?=some v/\j<xs.length/\-(xs.length:Int)<=i/\i<xs.length:=by
 unfold atI at h
 cases e:ixN xs.length i with
 |none=>rw [e] at h;cases h
 |some j=>rw [e] at h;obtain ⟨h1,h2,h3,h4⟩:=u9 e;exact zAW j h1 h h2 h3 h4
theorem aJ{α:Type}{xs:List α}{j:Nat}{v:α}(h:xs[j]?=some v):atI xs (j:Int)=some v:=by
 have hj:j<xs.length:=(zq7.mp h).1;have e:ixN xs.length (j:Int)=some j:=by unfold ixN;rw [zq2 Jlk,zq2 Jlk];simp
 unfold atI;rw [e];exact h
theorem fA{α:Type}(xs:List α)(v:α):atI (xs++[v]) (-1)=some v:=by
 have hl:(xs++[v]).length=xs.length+1:=by simp
 have e:ixN (xs++[v]).length (-1)=some xs.length:=by unfold ixN;rw [hl,zq1 Jkm,zq2 Jlk];congr 1;omega
 unfold atI;rw [e];show (xs++[v])[xs.length]?=some v;simp
def B5(b:Expr):Prop:=∀o i,subscripted b false o i=operate [o,i] (getItem o i)
def IxR(X:Cx)(r:R2):Prop:=
 ∀(value slice:Expr)(pins:List (Addr×Obj)) (s:Shared) (σ:St) (H:Hp) (x y:V) (v u:Value) (Q:VK),Inv X pins σ H s->RelV x v->RelV y u->r x y H Q->
  subscripted slice false v u=operate [v,u] (getItem v u)->wpAny (model X.prog X.w) X.A (subscriptTail value slice v u) (EP X pins σ Q) X.xe s
def MtR(X:Cx)(id:String)(r:V->List V->Hp->VK->Prop):Prop:=
 ∀(pins:List (Addr×Obj)) (s:Shared) (σ:St) (H:Hp) (x:V) (xs:List V) (v:Value) (us:List Value) (Q:VK),Inv X pins σ H s->RelV x v->Vals xs us->r x xs H Q->
  wpAny (model X.prog X.w) X.A (call (.builtin id) (v::us)) (EP X pins σ Q) X.xe s
section
variable {X:Cx} {a b:Expr} {ta tb:TE} {pos:Pos}
def Fk(K:W.Frag):R2:=fun x y H Q=>∃p xs i v,x=.ref p/\y=.int i/\SqL K H p xs/\atI xs i=some v/\Q v H
def Ce(K:W.Frag):R2:=fun x y H Q=>∃p xs i v,x=.ref p/\y=.int i/\SqT K H p xs/\atI xs i=some v/\Q v H
def HY:R2:=fun x y H Q=>∃z i c,x=.str z/\y=.int i/\z.length<=sizeLine/\atI z.cps.toList i=some c/\Q (.str ⟨#[c]⟩) H
theorem az:IxR X (Fk X.K):=by
 intro value slice pins s σ H x y v u Q I rx ry h hs;obtain ⟨p,xs,i,z,rfl,rfl,hq,he,q⟩:=h
 cases rx
 obtain ⟨t,rfl⟩:=ry;obtain ⟨its,r,pl,hz⟩:=I.list hq;obtain ⟨j,h1,h2,h3,h4,h5⟩:=mm he;obtain ⟨w,ew,rw'⟩:=r.get h2;have hl:=r.length;have hn:=iz;have fin:EP X pins σ Q w s:=zAA z H I rw' q
 by_cases h0:0<=i
 ·have hj:i.toNat=j:=by rw [seqIndex_of h0 h5] at h1;exact Option.some.inj h1
  exact item_listR pl.isList h0 Jlk (by rw [hj];simpa using ew) fin hs
 ·have hj:(i+(its.toArray.size:Int)).toNat=j:=by rw [seqIndex_neg Jlk h4] at h1;rw [dZ,<- hl];exact Option.some.inj h1
  exact subscriptTail_builtinR (x:=w) pl.isList.typeIs slot_list_getitem.lookup
   (wpAny_getItem_list_neg (Q:=fun r s'=>r=w/\EP X pins σ Q r s') pl.isList Jlk (by rw [dZ]<;>omega) Jlk (by rw [hj];simpa using ew) ⟨rfl,fin⟩) hs
theorem ar:IxR X (Ce X.K):=by
 intro value slice pins s σ H x y v u Q I rx ry h hs;obtain ⟨p,xs,i,z,rfl,rfl,hq,he,q⟩:=h
 cases rx
 obtain ⟨t,rfl⟩:=ry;obtain ⟨its,r,pl,hz⟩:=I.tuple hq;obtain ⟨j,h1,h2,h3,h4,h5⟩:=mm he;obtain ⟨w,ew,rw'⟩:=r.get h2;have hl:=r.length;have hn:=iz;have fin:EP X pins σ Q w s:=zAA z H I rw' q
 exact subscriptTail_builtinR (x:=w) pl.typeIs slot_tuple_getitem.lookup
  (getItem_tuple (j:=j) (Q:=fun r s'=>r=w/\EP X pins σ Q r s') pl Jlk Jlk (by rw [dZ,<- hl];exact h1) (by simpa using ew) ⟨rfl,fin⟩) hs
theorem EJ:IxR X HY:=by
 intro value slice pins s σ H x y v u Q I rx ry h hs;obtain ⟨z,i,c,rfl,rfl,hz,he,q⟩:=h;obtain ⟨t,rfl⟩:=rx;obtain ⟨t',rfl⟩:=ry;obtain ⟨j,h1,h2,h3,h4,h5⟩:=mm he;have hl:z.cps.toList.length=z.length:=by simp [Str.length]
 rw [hl] at h1 h4 h5;have hn:=iz;exact tail_any (typeIs_str s z t) slot_str_getitem.lookup (getItem_str (c:=c) (by have e1:decide (i < -(2 ^ 63:Int))=false:=bh Jlk;have e2:decide (i ≥ 2 ^ 63)=false:=bh Jlk;rw [e1,e2,Bool.or_false]) (by rw [h1];simpa using h2) (zAA (.str ⟨#[c]⟩) H (I.tok _) ⟨_,rfl⟩ q)) hs
theorem rA(its:List Value)(n j:Nat)(u:Value):Obj.mapSeq (·.setIfInBounds j u) {cls:=.type "list",data:=.seq its.toArray n}={cls:=.type "list",data:=.seq (its.set j u).toArray n}:=by simp [Obj.mapSeq]
theorem Inv.lst{pins:List (Addr×Obj)}{σ:St}{H:Hp}{s:Shared}{p:Addr}{xs:List V}(I:Inv X pins σ H s)(h:H p=some (.lst xs)):
  ∃(its:List Value)(n:Nat),Vals xs its/\s.heap.get? p=some {cls:=.type "list",data:=.seq its.toArray n}/\xs.length<=sizeLine:=by
 obtain ⟨z,its,n,r,e⟩:=I.hok p _ h;exact zAA its n r e z
theorem Inv.lstUpd{pins:List (Addr×Obj)}{σ:St}{H:Hp}{s:Shared}{p:Addr}{xs ys:List V}{its its':List Value}{n n':Nat}{f:Obj->Obj}(I:Inv X pins σ H s)(h:H p=some (.lst xs))
  (ho:s.heap.get? p=some {cls:=.type "list",data:=.seq its.toArray n}) (hf:f {cls:=.type "list",data:=.seq its.toArray n}={cls:=.type "list",data:=.seq its'.toArray n'}) (r:Vals ys its') (hz:ys.length<=sizeLine) (t:Nat) :
  Inv X pins σ (upd H p (.lst ys)) {s with heap:=s.heap.update p f,toks:=t}:=by
 have e:(s.heap.update p f).get? p=some {cls:=.type "list",data:=.seq its'.toArray n'}:=by rw [sI f ho (by rw [hf]<;>rfl),hf]
 refine I.write (x:=p) (e:=p) (by rw [h];trivial) (.inl rfl) (fun b u hb q=>(As _ _ (Ne.symm hb)).trans q) ⟨_,e⟩ ?_;exact ⟨hz,zAE its' n' r e⟩
def Ia:V->V->V->Hp->(Hp->Prop)->Prop:=fun o i v H Q=>∃p xs k j,o=.ref p/\i=.int k/\H p=some (.lst xs)/\ixN xs.length k=some j/\Q (upd H p (.lst (xs.set j v)))
theorem kg:Em X Ia:=by
 intro pins s σ H o i v ov iv u Q I ro ri rv h;obtain ⟨p,xs,k,j,rfl,rfl,hp,hj,q⟩:=h
 cases ro
 obtain ⟨t,rfl⟩:=ri;obtain ⟨its,n,r,ho,hz⟩:=I.lst hp;obtain ⟨h1,h2,h3,h4⟩:=u9 hj;have hl:=r.length;have hn:=iz;have I':Inv X pins σ (upd H p (.lst (xs.set j v))) {s with heap:=s.heap.update p (Obj.mapSeq (·.setIfInBounds j u))}:=
  I.lstUpd hp ho (rA its n j u) (r.set rv j) (by rw [sJ];exact hz) s.toks
 by_cases h0:0<=k
 ·have hk:k.toNat=j:=by rw [seqIndex_of h0 h4] at h1;exact Option.some.inj h1
  exact W.ki_setAt ho h0 Jlk (by rw [dZ,<- hl];exact h4) (by rw [hk];exact zn _ I' q)
 ·have hk:(k+(its.toArray.size:Int)).toNat=j:=by rw [seqIndex_neg Jlk h3] at h1;rw [dZ,<- hl];exact Option.some.inj h1
  exact W.ki_setBack ho Jlk (by rw [dZ,<- hl];exact h3) Jlk (by rw [hk];exact zn _ I' q)
theorem mX(lo hi:Option Int)(n:Nat):(sliceBounds lo hi none n).1=((HT.sIx n 0 lo:Nat):Int)/\(sliceBounds lo hi none n).2.1=((HT.sIx n n hi:Nat):Int)/\(sliceBounds lo hi none n).2.2=1:=by
 refine zAB ?_ ?_ rfl
 ·cases lo with
  |none=>simp [sliceBounds,HT.sIx]
  |some i=>
   simp only [sliceBounds,HT.sIx,Option.getD_none,show (1:Int)>0 by decide,if_true]
   by_cases h:i<0
   ·simp only [h,if_true]<;>omega
   ·simp only [h,if_false]<;>omega
 ·cases hi with
  |none=>simp [sliceBounds,HT.sIx]
  |some i=>
   simp only [sliceBounds,HT.sIx,Option.getD_none,show (1:Int)>0 by decide,if_true]
   by_cases h:i<0
   ·simp only [h,if_true]<;>omega
   ·simp only [h,if_false]<;>omega
theorem kQ(its:List Value)(lo hi:Option Int):slicePick its.toArray lo hi none=((its.drop (HT.sIx its.length 0 lo)).take (HT.sIx its.length its.length hi-HT.sIx its.length 0 lo)).toArray:=by obtain ⟨h1,h2,h3⟩:=mX lo hi its.toArray.size;unfold slicePick;rw [h1,h2,h3];simp only [sliceRange_one,pick_run,List.size_toArray]<;>rfl
def Ic(K:W.Frag):V->Option Int->Option Int->Hp->VK->Prop:=fun x lo hi H Q=>∃a xs,x=.ref a/\SqL K H a xs/\∀p,H p=none->Q (.ref p) (upd H p (.lst (g8 xs lo hi)))
theorem ji:SlR X (Ic X.K):=by
 intro pins s σ H x v vl vu lo hi sl Q I rx hs pl pu h;obtain ⟨a,xs,rfl,hx,q⟩:=h
 cases rx
 obtain ⟨its,r,ht,hz⟩:=I.list hx;have hlen:=r.length;refine zAA ("list") _ slot_list_getitem.lookup ht.isList.typeIs ?_;refine wpAny_getItem_list_slice ht.isList hs pl pu .none Jll ?_ (by rw [List.size_toArray]<;>omega);rw [kQ,<- hlen];refine zAA (.ref s.heap.objs.size) _ (I.laid (t':=s.toks) (o:=.lst (g8 xs lo hi)) (fun b ob q=>bO _ q) (zq6 _) ?_) rfl (q _ (I.hok.fresh (zq6 _)));exact ⟨dX (iL xs lo hi) hz,zAE _ 0 ((r.drop (HT.sIx xs.length 0 lo)).take (HT.sIx xs.length xs.length hi-HT.sIx xs.length 0 lo)) (cF _ rfl)⟩
def c7:V->Bool
 | .non=>true
 | .bl _=>true
 | .int _=>true
 | .str _=>true
 |_=>false
def eqV:V->V->Bool
 | .non,.non=>true
 | .bl a,.bl b=>a==b
 | .bl a,.int b=>(if a then 1 else 0)==b
 | .int a,.bl b=>a==(if b then 1 else 0)
 | .int a,.int b=>a==b
 | .str a,.str b=>a==b
 |_,_=>false
theorem xP{A:Around}{s:Shared}{y x:V}{u v:Value}(ry:RelV y u)(rx:RelV x v)(fy:c7 y=true)(fx:c7 x=true):SeqAt.EqAt A s u v (eqV y x):=by
 cases y with
 |non=>
  cases ry
  cases x with
  |non=>cases rx;exact SeqAt.EqAt.same _
  |bl b=>cases rx;exact SeqAt.EqAt.none_bool b
  |int b=>obtain ⟨t,rfl⟩:=rx;exact SeqAt.EqAt.none_int b t
  |str b=>obtain ⟨t,rfl⟩:=rx;exact SeqAt.EqAt.none_str b t
  |_=>exact absurd (show false=true from fx) bz
 |bl a=>
  cases ry
  cases x with
  |non=>cases rx;exact SeqAt.EqAt.bool_none a
  |bl b=>cases rx;exact SeqAt.EqAt.bool_bool a b
  |int b=>obtain ⟨t,rfl⟩:=rx;exact SeqAt.EqAt.bool_int a b t
  |str b=>obtain ⟨t,rfl⟩:=rx;exact SeqAt.EqAt.bool_str a b t
  |_=>exact absurd (show false=true from fx) bz
 |int a=>
  obtain ⟨t',rfl⟩:=ry
  cases x with
  |non=>cases rx;exact SeqAt.EqAt.int_none a t'
  |bl b=>cases rx;exact SeqAt.EqAt.int_bool a t' b
  |int b=>obtain ⟨t,rfl⟩:=rx;exact SeqAt.EqAt.int_int a t' b t
  |str b=>obtain ⟨t,rfl⟩:=rx;exact SeqAt.EqAt.int_str a t' b t
  |_=>exact absurd (show false=true from fx) bz
 |str a=>
  obtain ⟨t',rfl⟩:=ry
  cases x with
  |non=>cases rx;exact SeqAt.EqAt.str_none a t'
  |bl b=>cases rx;exact SeqAt.EqAt.str_bool a t' b
  |int b=>obtain ⟨t,rfl⟩:=rx;exact SeqAt.EqAt.str_int a t' b t
  |str b=>obtain ⟨t,rfl⟩:=rx;exact SeqAt.EqAt.str_str a t' b t
  |_=>exact absurd (show false=true from fx) bz
 |_=>exact absurd (show false=true from fy) bz
def eqU(x:V)(u:Value):Bool:=match u with
 | .none=>eqV .non x
 | .bool b=>eqV (.bl b) x
 | .int i _=>eqV (.int i) x
 | .str z _=>eqV (.str z) x
 |_=>false
theorem qY{x y:V}{u:Value}(r:RelV y u)(f:c7 y=true):eqU x u=eqV y x:=by
 cases y with
 |non=>cases r;rfl
 |bl b=>cases r;rfl
 |int i=>obtain ⟨t,rfl⟩:=r;rfl
 |str z=>obtain ⟨t,rfl⟩:=r;rfl
 |_=>exact absurd (show false=true from f) bz
theorem gK{x:V}:∀{xs:List V} {us:List Value},Vals xs us->xs.all c7=true->us.any (eqU x)=xs.any fun y=>eqV y x
 |_,_,.nil,_=>rfl
 |y::xs,u::us,.cons r t,f=>by rw [AZ,ee] at f;rw [qE,qE,qY r f.1,gK t f.2]
theorem eJ{A:Around}{s:Shared}{x:V}{v:Value}(rx:RelV x v)(fx:c7 x=true):∀{xs:List V} {us:List Value},Vals xs us->xs.all c7=true->∀u∈us,SeqAt.EqAt A s u v (eqU x u)
 |_,_,.nil,_=>fun u hu=>by cases hu
 |y::xs,u::us,.cons r t,f=>fun u' hu=>by
  rw [AZ,ee] at f;rcases zq11.mp hu with rfl | hu
  ·rw [qY r f.1];exact xP r rx f.1 fx
  ·exact eJ rx fx t f.2 u' hu
def inV(x:V)(xs:List V):Bool:=xs.any fun y=>eqV y x
def rIn(K:W.Frag)(neg:Bool):R2:=fun x y H Q=>∃p xs,y=.ref p/\(SqL K H p xs\/SqT K H p xs)/\c7 x=true/\xs.all c7=true/\Q (.bl (if neg then ! inV x xs else inV x xs)) H
theorem eK:OpR X (compareOp .In) (rIn X.K false):=by
 intro pins s σ H x y v u Q I rx ry h;obtain ⟨p,xs,rfl,hq,fx,fs,q⟩:=h
 cases ry
 rcases hq with hq | hq
 ·obtain ⟨its,r,pl,hz⟩:=I.list hq;refine SeqAt.in_listAt (eqU x) pl.isList (fun w hw=>eJ rx fx r fs w (by simpa using hw)) (zAA (.bl _) H I rfl ?_);rw [show its.toArray.any (eqU x)=its.any (eqU x) by simp,gK r fs];exact q
 ·obtain ⟨its,r,pl,hz⟩:=I.tuple hq;refine SeqAt.in_tupleAt (eqU x) pl (fun w hw=>eJ rx fx r fs w (by simpa using hw)) (zAA (.bl _) H I rfl ?_);rw [show its.toArray.any (eqU x)=its.any (eqU x) by simp,gK r fs];exact q
theorem dB:OpR X (compareOp .NotIn) (rIn X.K true):=by
 intro pins s σ H x y v u Q I rx ry h;obtain ⟨p,xs,rfl,hq,fx,fs,q⟩:=h
 cases ry
 rcases hq with hq | hq
 ·obtain ⟨its,r,pl,hz⟩:=I.list hq;refine SeqAt.notIn_listAt (eqU x) pl.isList (fun w hw=>eJ rx fx r fs w (by simpa using hw)) (zAA (.bl _) H I rfl ?_);rw [show its.toArray.any (eqU x)=its.any (eqU x) by simp,gK r fs];exact q
 ·obtain ⟨its,r,pl,hz⟩:=I.tuple hq;refine SeqAt.notIn_tupleAt (eqU x) pl (fun w hw=>eJ rx fx r fs w (by simpa using hw)) (zAA (.bl _) H I rfl ?_);rw [show its.toArray.any (eqU x)=its.any (eqU x) by simp,gK r fs];exact q
theorem aF:dM X (.builtin "len") (fun xs H Q=>∃p ys,xs=[.ref p]/\(SqL X.K H p ys\/SqT X.K H p ys)/\Q (.int ys.length) H):=by
 intro pins s σ H xs us Q I r h;obtain ⟨p,ys,rfl,hq,q⟩:=h;obtain ⟨u,rfl,rx⟩:=fu r
 cases rx
 have hn:=iz;rcases hq with hq | hq
 ·obtain ⟨its,r',pl,hz⟩:=I.list hq;have hlen:=r'.length;exact Calls.call_len_list pl.isList (by simp only [List.size_toArray]<;>omega) (zAA (.int ys.length) H (I.tok _) ⟨s.toks+1,by rw [dZ,hlen]⟩ q)
 ·obtain ⟨its,r',pl,hz⟩:=I.tuple hq;have hlen:=r'.length;exact len_tuple pl (by simp only [List.size_toArray]<;>omega) (zAA (.int ys.length) H (I.tok _) ⟨s.toks+1,by rw [dZ,hlen]⟩ q)
theorem cA:dM X (.type "list") (fun xs H Q=>∃p ys,xs=[.ref p]/\(SqL X.K H p ys\/SqT X.K H p ys)/\∀l,H l=none->Q (.ref l) (upd H l (.lst ys))):=by
 intro pins s σ H xs us Q I r h;obtain ⟨p,ys,rfl,hq,q⟩:=h;obtain ⟨u,rfl,rx⟩:=fu r
 cases rx
 have fin:∀(its:List Value),Vals ys its->ys.length<=sizeLine->∀(h':Heap)(c':Nat),(∀b o',s.heap.get? b=some o'->h'.get? b=some o')->
   h'.get? s.heap.objs.size=some {cls:=.type "list",dict:=none,data:=.seq its.toArray c',slots:=#[]}->EP X pins σ Q (.ref s.heap.objs.size) {s with heap:=h'}:=fun its r' hz h' c' kp e=>
  (zAA (.ref s.heap.objs.size) _ (I.laid (t':=s.toks) kp (zq6 _) (show ObjOk X.prog X.w _ h' _ (.lst ys) from ⟨hz,zAE its c' r' e⟩)) rfl (q _ (I.hok.fresh (zq6 _))))
 rcases hq with hq | hq
 ·obtain ⟨its,r',pl,hz⟩:=I.list hq;have hlen:=r'.length;obtain ⟨o,ho,hc,n,hd⟩:=pl.isList;exact call_list_seq p (.inl rfl) ho hc hd (fun h' c' kp e=>fin its r' hz h' c' kp e) (by simp only [List.size_toArray]<;>omega)
 ·obtain ⟨its,r',pl,hz⟩:=I.tuple hq;have hlen:=r'.length;obtain ⟨o,ho,hc,n,hd⟩:=pl;exact call_list_seq p (.inr rfl) ho hc hd (fun h' c' kp e=>fin its r' hz h' c' kp e) (by simp only [List.size_toArray]<;>omega)
theorem eE:dM X (.type "tuple") (fun xs H Q=>∃p ys,xs=[.ref p]/\((SqL X.K H p ys/\∀l,H l=none->Q (.ref l) (upd H l (.tup ys)))\/(SqT X.K H p ys/\Q (.ref p) H))):=by
 intro pins s σ H xs us Q I r h;obtain ⟨p,ys,rfl,h⟩:=h;obtain ⟨u,rfl,rx⟩:=fu r
 cases rx
 rcases h with ⟨hq,q⟩ | ⟨hq,q⟩
 ·obtain ⟨its,r',pl,hz⟩:=I.list hq;have hlen:=r'.length;refine call_tuple_list pl.isList (fun h' kp=>?_) (by simp only [List.size_toArray]<;>omega);have I1:Inv X pins σ H {s with heap:=h'}:=I.kept (t':=s.toks) kp;have I2:Inv X pins σ (upd H h'.objs.size (.tup ys)) {s with heap:=h'.push {cls:=.type "tuple",data:=.seq its.toArray}}:=
   I1.laid (t':=s.toks) (fun b o e=>bO _ e) (zq6 _) (show ObjOk X.prog X.w _ _ _ (.tup ys) from ⟨hz,zn its r' (IsTup.new _ _)⟩)
  exact zAA (.ref h'.objs.size) _ I2 rfl (q _ (I1.hok.fresh (zq6 _)))
 ·obtain ⟨its,r',pl,hz⟩:=I.tuple hq;exact call_tuple_same pl (zAA (.ref p) H I rfl q)
def tyV(K:W.Frag)(T:String)(x:V)(H:Hp):Prop:=match x with
 | .str _=>T="str"
 | .int _=>T="int"
 | .ref p=>(T="list"/\∃xs,SqL K H p xs)\/(T="tuple"/\∃o,K.lookup p=some o/\o.cls=.type "tuple"/\o.dict=none)\/
   (T="dict"/\((∃kvs,H p=some (.dK kvs))\/∃kvs,H p=some (.dT kvs)))\/(T="set"/\∃S n,H p=some (.set S n))
 |_=>False
theorem sv{pins:List (Addr×Obj)}{σ:St}{H:Hp}{s:Shared}{T:String}{x:V}{v:Value}(I:Inv X pins σ H s)(r:RelV x v)(ty:tyV X.K T x H):
  s.TypeIs v T/\∀a,v=.ref a->∃ob,s.heap.get? a=some ob/\ob.dict=none:=by
 cases x with
 |str z=>
  obtain ⟨t,rfl⟩:=r
  cases (show T="str" from ty)
  exact ⟨typeIs_str s z t,fun _ e=>nomatch e⟩
 |int i=>
  obtain ⟨t,rfl⟩:=r
  cases (show T="int" from ty)
  exact ⟨typeIs_int s i t,fun _ e=>nomatch e⟩
 |ref p=>
  cases r
  rcases ty with ⟨rfl,xs,hq⟩ | ⟨rfl,o,hk,hc,hd⟩ | ⟨rfl,hk⟩ | ⟨rfl,S,n,hk⟩
  ·obtain ⟨its,_,pl,_⟩:=I.list hq;refine ⟨pl.isList.typeIs,fun a e=>?_⟩
   cases e
   obtain ⟨o,n,e,c,hd,_⟩:=pl;exact zn o e hd
  ·refine ⟨zn o (I.kIn p o hk) hc,fun a e=>?_⟩
   cases e
   exact zn o (I.kIn _ o hk) hd
  ·have z:∃o,s.heap.get? p=some o/\o.ExactDict:=by
    rcases hk with ⟨kvs,hk⟩ | ⟨kvs,hk⟩
    ·obtain ⟨_,_,_,_,o,_,_,e,ex,_⟩:=I.hok p _ hk;exact zn o e ex
    ·obtain ⟨_,_,_,_,o,_,_,e,ex,_⟩:=I.hok p _ hk;exact zn o e ex
   obtain ⟨o,e,ex⟩:=z;refine ⟨zn o e ex.1,fun a e2=>?_⟩
   cases e2
   exact zn o e ex.2.1
  ·obtain ⟨o,_,_,_,e,ex,_⟩:=I.hok p _ hk;refine ⟨zn o e ex.1,fun a e2=>?_⟩
   cases e2
   exact zn o e ex.2.1
 |_=>exact False.elim ty
def IZ(K:W.Frag)(T:String)(r:V->List V->Hp->VK->Prop)(to:TE):TE:=fun σ H Q=>to σ H fun x H1=>tyV K T x H1/\r x [] H1 Q
def tBM(K:W.Frag)(T:String)(r:V->List V->Hp->VK->Prop)(to:TE)(t:TA):TE:=fun σ H Q=>to σ H fun x H1=>tyV K T x H1/\t σ H1 fun xs H2=>r x xs H2 Q
variable {o e:Expr} {es:List Expr} {to:TE} {t:TA} {name:Str} {apos cpos:Pos} {T id:String} {r:V->List V->Hp->VK->Prop}
theorem HU(pa:PlainAttrs T)(slot:Slot T name id)(hty:typeOf (.builtin id)=pure (.type "method_descriptor")) (hm:MtR X id r) (ho:PE X o to) (ha:PA X (e::es) t)
  (hbase:attributeBase o name X.env (eval o X.env)=eval o X.env:=by rfl)
  (hfew:((backTo cpos (starEach (e::es) X.env)).all (fun x=>! x.1)&&(backToKw cpos (keywordEach [] X.env)).all (fun x=>x.1.isSome)
   && decide ((e::es).length+([]:List Keyword).length+(if ([]:List Keyword).isEmpty then 0 else 1)<30))=true:=by rfl)
  (hline:(apos.endLine==cpos.line)=true:=by rfl) (hs:starEach (e::es) X.env=(false,eval e X.env)::starEach es X.env:=by rfl) (hplain:(backTo cpos (starEach es X.env)).any (·.1)=false:=by rfl) :
  PE X (.Call (.Attribute o name apos) (e::es) [] cpos) (tBM X.K T r to t):=by
 intro pins s σ H Q I h;refine wpAny_Call_method_late hbase hfew hline rfl (thn (ho pins s σ H _ I h) fun v s1 hhx=>?_);obtain ⟨x,H1,I1,r1,ty,q1⟩:=hhx;obtain ⟨h1,h2⟩:=sv I1 r1 ty;refine zAZ T id pa slot hty h1 h2 ?_;have hA:=ha cpos pins s1 σ H1 _ I1 q1;rw [hs] at hA ⊢;refine Calls.callWith_builtin (by show (false || (backTo cpos (starEach es X.env)).any (·.1))=false;rw [hplain]<;>rfl) (Calls.evalArgs_plain ?_);exact thn hA fun us s2 ⟨vs,H2,I2,r2,q2⟩=>hm pins s2 σ H2 x vs v us Q I2 r1 r2 q2
/- xs.append(e),list.index on a module's tuple .. are MtR facts of 06m -/
end
end L2
namespace L2
def MtM(X:Cx)(id:String)(r:V->List V->Hp->VK->Prop):Prop:=
 ∀(pins:List (Addr×Obj)) (s:Shared) (σ:St) (H:Hp) (x:V) (xs:List V) (v:Value) (us:List Value) (Q:VK),Inv X pins σ H s->RelV x v->Vals xs us->r x xs H Q->
  wpAny (model X.prog X.w) X.A (call (.builtin id) (v::us)) (EP X pins σ Q) X.xe s
theorem Vals.one:∀{x:V} {us:List Value},Vals [x] us->∃u,us=[u]/\RelV x u
 |_,_,.cons r .nil=>zn _ rfl r
theorem Vals.zero:∀{us:List Value},Vals [] us->us=[]
 |_,.nil=>rfl
theorem Vals.dropLast{xs:List V}{us:List Value}(h:Vals xs us):Vals xs.dropLast us.dropLast:=by
 induction h with
 |nil=>exact .nil
 |cons r t ih=>
  cases t with
  |nil=>exact .nil
  |cons q t'=>exact .cons r ih
theorem qZ{α:Type}(l:List α):l.eraseIdx (l.length-1)=l.dropLast:=by
 induction l with
 |nil=>rfl
 |cons a r ih=>
  cases r with
  |nil=>rfl
  |cons b r=>
   have e:(a::b::r).length-1=((b::r).length-1)+1:=by have h1:(a::b::r).length=r.length+2:=rfl;have h2:(b::r).length=r.length+1:=rfl;omega
   rw [e,List.eraseIdx_cons_succ,ih]
   all_goals rfl
section
variable {X:Cx} {pins:List (Addr×Obj)} {σ:St} {H:Hp} {s:Shared} {l b:Addr} {xs ys zs:List V}
theorem Inv.lset{its its':List Value}{n:Nat}{f:Array Value->Array Value}{t':Nat}(I:Inv X pins σ H s)(hH:H l=some (.lst xs))
  (e:s.heap.get? l=some {cls:=.type "list",data:=.seq its.toArray n}) (hf:f its.toArray=its'.toArray) (hv:Vals ys its') (hz:ys.length<=sizeLine) :
  Inv X pins σ (upd H l (.lst ys)) {s with heap:=s.heap.update l (Obj.mapSeq f),toks:=t'}:=by
 have q:=PySem.IsL.update e f;rw [hf] at q;refine I.write (x:=l) (e:=l) (by rw [hH];exact trivial) (.inl rfl) (fun b' u hb hu=>(As s.heap (Obj.mapSeq f) (Ne.symm hb)).trans hu) ⟨_,q⟩ ?_;exact ⟨hz,zAE its' _ hv q⟩
theorem Inv.lnew{its:List Value}{t':Nat}(I:Inv X pins σ H s)(hv:Vals ys its)(hz:ys.length<=sizeLine):
  Inv X pins σ (upd H s.heap.objs.size (.lst ys)) {s with heap:=s.heap.push {cls:=.type "list",data:=.seq its.toArray},toks:=t'}:=
 I.laid (fun _ _ q=>bO _ q) (zq6 _) ⟨hz,zAE its 0 hv (cF _ rfl)⟩
theorem Inv.fresh(I:Inv X pins σ H s):H s.heap.objs.size=none:=I.hok.fresh (zq6 _)
theorem Inv.lstM(I:Inv X pins σ H s)(hH:H l=some (.lst xs)):xs.length<=sizeLine/\∃(its:List Value)(n:Nat),Vals xs its/\xs.length=its.length/\s.heap.get? l=some {cls:=.type "list",data:=.seq its.toArray n}:=by obtain ⟨z,its,n,r,e⟩:=I.hok l _ hH;exact ⟨z,zAA its n r r.length e⟩
theorem ym{n:Nat}(h:n<=sizeLine):Builtin.List.listTooLong n=false:=by unfold Builtin.List.listTooLong;exact bh Jlk
end
section
variable {X:Cx}
def uo:V->List V->Hp->VK->Prop:=fun x vs H Q=>∃l xs y,x=.ref l/\vs=[y]/\H l=some (.lst xs)/\xs.length<sizeLine/\Q .non (upd H l (.lst (xs++[y])))
theorem aX:MtM X "list.append" uo:=by
 intro pins s σ H x vs v us Q I rx rv h;obtain ⟨l,xs,y,rfl,rfl,hH,hz,q⟩:=h
 cases rx
 obtain ⟨u,rfl,ru⟩:=rv.one;obtain ⟨z,its,n,r,hl,e⟩:=I.lstM hH;refine call_meets F.slot_list_append (zn _ e rfl) F.entry_list_append (F.args_list_append_2 _ _) (PySem.list_append l its.toArray n u (by rw [dZ];omega)) ⟨e,?_⟩;refine zAA .non _ (I.lset (its':=its++[u]) hH e Jll (r.append (.cons ru .nil)) ?_) rfl q;rw [zq8,bV];omega
def Cd:V->List V->Hp->VK->Prop:=fun x vs H Q=>∃l b xs zs,x=.ref l/\vs=[.ref b]/\H l=some (.lst xs)/\H b=some (.lst zs)/\xs.length+zs.length<=sizeLine/\Q .non (upd H l (.lst (xs++zs)))
theorem w9:MtM X "list.extend" Cd:=by
 intro pins s σ H x vs v us Q I rx rv h;obtain ⟨l,b,xs,zs,rfl,rfl,hH,hB,hz,q⟩:=h
 cases rx
 obtain ⟨u,rfl,ru⟩:=rv.one
 cases ru
 obtain ⟨z,its,n,r,hl,e⟩:=I.lstM hH;obtain ⟨z2,its2,n2,r2,hl2,e2⟩:=I.lstM hB;have hsz:its.toArray.size+its2.toArray.size<=sizeLine:=by rw [dZ,dZ];omega
 have hlong:¬(! its.toArray.isEmpty&&Builtin.List.listTooLong (its.toArray.size+its2.toArray.size))=true:=by rw [ym hsz,Bool.and_false];exact bz
 refine call_meets F.slot_list_extend (zn _ e rfl) F.entry_list_extend (F.args_list_extend_2 _ _)
  (AutoSeq1.list_extend_list_list_0 l its.toArray n b its2.toArray n2 hlong (by rw [dZ];omega) Jlk) (zAB e e2 ?_)
 refine zAA .non _ (I.lset (its':=its++its2) hH e Jll (r.append r2) ?_) rfl q;rw [zq8];omega
def I0:V->List V->Hp->VK->Prop:=fun x vs H Q=>∃l xs y,x=.ref l/\vs=[]/\H l=some (.lst xs)/\xs[xs.length-1]?=some y/\Q y (upd H l (.lst xs.dropLast))
theorem rC:MtM X "list.pop" I0:=by
 intro pins s σ H x vs v us Q I rx rv h;obtain ⟨l,xs,y,rfl,rfl,hH,hy,q⟩:=h
 cases rx
 have hus:=rv.zero;subst hus;obtain ⟨z,its,n,r,hl,e⟩:=I.lstM hH;obtain ⟨u,hu,ru⟩:=r.get hy;have hy':its.toArray[its.toArray.size-1]?=some u:=by show its.toArray[its.length-1]?=some u;rw [<- qF,<- hl];exact hu
 refine call_meets F.slot_list_pop (zn _ e rfl) F.entry_list_pop (F.args_list_pop_1 _) (MeetsSeq.list_pop_last l its.toArray n u hy' (by rw [dZ];omega)) ⟨e,?_⟩;refine zAA y _ (I.lset (its':=its.dropLast) hH e ?_ r.dropLast ?_) ru q
 ·show its.toArray.eraseIdxIfInBounds (its.toArray.size-1)=its.dropLast.toArray;rw [dZ,List.eraseIdxIfInBounds_toArray,qZ]
 ·rw [nv];omega
def Fj:V->List V->Hp->VK->Prop:=fun x vs H Q=>∃l xs,x=.ref l/\vs=[]/\H l=some (.lst xs)/\Q .non (upd H l (.lst []))
theorem ye:MtM X "list.clear" Fj:=by
 intro pins s σ H x vs v us Q I rx rv h;obtain ⟨l,xs,rfl,rfl,hH,q⟩:=h
 cases rx
 have hus:=rv.zero;subst hus;obtain ⟨z,its,n,r,hl,e⟩:=I.lstM hH;refine call_meets F.slot_list_clear (zn _ e rfl) F.entry_list_clear (F.args_list_clear_1 _) (AutoSeq1.list_clear_list_0 l its.toArray n (by rw [dZ];omega)) ⟨e,?_⟩;exact zAA .non _ (I.lset (its':=[]) (ys:=[]) hH e rfl .nil (bT _)) rfl q
def HX:R2:=fun x y H Q=>∃l b xs zs,x=.ref l/\y=.ref b/\H l=some (.lst xs)/\H b=some (.lst zs)/\xs.length+zs.length<=sizeLine/\∀p,H p=none->Q (.ref p) (upd H p (.lst (xs++zs)))
theorem f6:OpR X (binaryOp .Add) HX:=by
 intro pins s σ H x y v u Q I rx ry h;obtain ⟨l,b,xs,zs,rfl,rfl,hH,hB,hz,q⟩:=h
 cases rx
 cases ry
 obtain ⟨z,its,n,r,hl,e⟩:=I.lstM hH;obtain ⟨z2,its2,n2,r2,hl2,e2⟩:=I.lstM hB;refine PySem.P.add_list e e2 ?_ (by rw [dZ,dZ];omega);have ea:its.toArray++its2.toArray=(its++its2).toArray:=by simp
 rw [ea];exact zAA (.ref _) _ (I.lnew (t':=s.toks) (r.append r2) (by rw [zq8];omega)) rfl (q _ I.fresh)
end
section
variable {prog:Program} {w:World} {A:Around} {E:Value->Shared->Prop} {s:Shared}
end
section
variable {X:Cx}
end
end L2
namespace L2
section
variable {κ:Type} [DecidableEq κ]
def ce(kvs:List (κ×V))(k:κ):Option V:=(kvs.find? fun kv=>decide (kv.1=k)).map (·.2)
def fv(kvs:List (κ×V))(k:κ)(v:V):List (κ×V):=
 if (kvs.any fun kv=>decide (kv.1=k))=true then kvs.map (fun kv=>if kv.1=k then (kv.1,v) else kv) else kvs++[(k,v)]
theorem dc{p:κ×V}{r:List (κ×V)}{k:κ}(e:p.1=k):ce (p::r) k=some p.2:=by simp [ce,List.find?_cons,e]
theorem cT{p:κ×V}{r:List (κ×V)}{k:κ}(e:¬p.1=k):ce (p::r) k=ce r k:=by simp [ce,List.find?_cons,e]
theorem fK(k:κ):∀kvs:List (κ×V),(kvs.any fun kv=>decide (kv.1=k))=(ce kvs k).isSome
 | []=>rfl
 |p::r=>by
  rw [qE]
  by_cases e:p.1=k
  ·simp only [dc e,decide_eq_true e,Bool.true_or,Option.isSome_some]
  ·rw [cT e,bh e,Au];exact fK k r
theorem iQ(kvs:List (κ×V))(k:κ)(v:V):(fv kvs k v).length<=kvs.length+1:=by
 unfold fv
 split
 ·rw [zq4];omega
 ·rw [zq8,d5,List.length_nil];omega
theorem RelO.isSome_eq{o:Option V}{u:Option Value}(r:RelO o u):o.isSome=u.isSome:=by
 cases o with
 |none=>cases u with
  |none=>rfl
  |some _=>exact (show False from r).elim
 |some _=>cases u with
  |none=>exact (show False from r).elim
  |some _=>rfl
theorem RelO.getD{o:Option V}{u:Option Value}{d:V}{d':Value}(r:RelO o u)(rd:RelV d d'):RelV (o.getD d) (u.getD d'):=by
 cases o with
 |none=>cases u with
  |none=>exact rd
  |some _=>exact (show False from r).elim
 |some _=>cases u with
  |none=>exact (show False from r).elim
  |some _=>exact r
theorem KV.val{kvs:List (κ×V)}{vs:List (κ×Value)}(r:KV kvs vs)(k:κ):RelO (ce kvs k) (valueAt vs k):=by
 unfold KV at r
 induction r with
 |nil=>exact True.intro
 | @cons p q ps qs h t ih=>
  obtain ⟨h1,h2⟩:=h
  by_cases e:p.1=k
  ·have e':q.1=k:=h1.symm.trans e;have b:valueAt (q::qs) k=some q.2:=by simp [valueAt,List.find?_cons,e']
   rw [dc e,b];exact h2
  ·have e':¬q.1=k:=fun z=>e (h1.trans z);have b:valueAt (q::qs) k=valueAt qs k:=by simp [valueAt,List.find?_cons,e']
   rw [cT e,b];exact ih
theorem KV.any{kvs:List (κ×V)}{vs:List (κ×Value)}(r:KV kvs vs)(k:κ):(kvs.any fun kv=>decide (kv.1=k))=vs.any fun kv=>decide (kv.1=k):=by
 unfold KV at r
 induction r with
 |nil=>rfl
 |cons h t ih=>rw [qE,qE,ih,h.1]
theorem KV.repl{kvs:List (κ×V)}{vs:List (κ×Value)}(r:KV kvs vs)(k:κ){y:V}{u:Value}(ry:RelV y u):
  KV (kvs.map fun kv=>if kv.1=k then (kv.1,y) else kv) (vs.map fun kv=>if kv.1=k then (kv.1,u) else kv):=by
 unfold KV at r ⊢
 induction r with
 |nil=>exact .nil
 | @cons p q ps qs h t ih=>
  rw [cm,cm];refine .cons ?_ ih;obtain ⟨h1,h2⟩:=h
  by_cases e:p.1=k
  ·rw [zq2 e,zq2 (h1.symm.trans e)];exact ⟨h1,ry⟩
  ·rw [zq1 e,zq1 (fun z=>e (h1.trans z))];exact ⟨h1,h2⟩
theorem KV.put{kvs:List (κ×V)}{vs:List (κ×Value)}(r:KV kvs vs)(k:κ){y:V}{u:Value}(ry:RelV y u):KV (fv kvs k y) (stored vs k u):=by
 unfold fv stored;rw [r.any k]
 by_cases e:(vs.any fun kv=>decide (kv.1=k))=true
 ·rw [zq2 e,zq2 e];exact r.repl k ry
 ·rw [zq1 e,zq1 e];exact Paired.snoc r ⟨rfl,ry⟩
theorem KV.keys{kvs:List (κ×V)}{vs:List (κ×Value)}(r:KV kvs vs):kvs.map (·.1)=vs.map (·.1):=by
 unfold KV at r
 induction r with
 |nil=>rfl
 |cons h t ih=>rw [cm,cm,ih,h.1]
theorem KV.length{kvs:List (κ×V)}{vs:List (κ×Value)}(r:KV kvs vs):kvs.length=vs.length:=Paired.length r
end
theorem lO{P:Program}{w:World}{k:Key}{u:Value}(r:RelV (kV k) u):(bB P w).is k u=true:=by
 cases k with
 |inl i=>obtain ⟨t,e⟩:=(show ∃t,u=Value.int i t from r);subst e;exact oT P w i t
 |inr x=>obtain ⟨t,e⟩:=(show ∃t,u=Value.str x t from r);subst e;exact oU P w x t
theorem lJ{P:Program}{w:World}:∀{ks:List Key} {us:List Value},Vals (ks.map kV) us->ItemsAre (bB P w) ks us
 | [],_,r=>by rw [B0] at r;cases r;exact .nil
 |k::ks,_,r=>by
  rw [cm] at r
  cases r with
  |cons h t=>exact .cons (lO h) (lJ t)
abbrev KT (H:Hp):List (List Key×V)->List (List Key×Addr×Value)->Prop:=Paired fun p q=>p.1=q.1/\H q.2.1=some (.tup (p.1.map kV))/\RelV p.2 q.2.2
theorem KT.val{H:Hp}{kvs:List (List Key×V)}{xs:List (List Key×Addr×Value)}(r:KT H kvs xs)(k:List Key):RelO (ce kvs k) ((atKey xs k).map (·.2)):=by
 induction r with
 |nil=>exact True.intro
 | @cons p q ps qs h t ih=>
  obtain ⟨h1,_,h2⟩:=h
  by_cases e:p.1=k
  ·have e':q.1=k:=h1.symm.trans e;have b:atKey (q::qs) k=some q.2:=by simp [atKey,List.find?_cons,e']
   rw [dc e,b];exact h2
  ·have e':¬q.1=k:=fun z=>e (h1.trans z);have b:atKey (q::qs) k=atKey qs k:=by simp [atKey,List.find?_cons,e']
   rw [cT e,b];exact ih
theorem KT.repl{H:Hp}{kvs:List (List Key×V)}{xs:List (List Key×Addr×Value)}(r:KT H kvs xs)(k:List Key){y:V}{u:Value}(ry:RelV y u):
  KT H (kvs.map fun kv=>if kv.1=k then (kv.1,y) else kv) (xs.map (putAt k u)):=by
 induction r with
 |nil=>exact .nil
 | @cons p q ps qs h t ih=>
  rw [cm,cm];refine .cons ?_ ih;obtain ⟨h1,h2,h3⟩:=h;unfold putAt
  by_cases e:p.1=k
  ·rw [zq2 e,zq2 (h1.symm.trans e)];exact zAB h1 h2 ry
  ·rw [zq1 e,zq1 (fun z=>e (h1.trans z))];exact zAB h1 h2 h3
theorem KT.put{H:Hp}{kvs:List (List Key×V)}{xs:List (List Key×Addr×Value)}(r:KT H kvs xs)(k:List Key){b:Addr}{y:V}{u:Value}(hb:H b=some (.tup (k.map kV)))(ry:RelV y u):
  KT H (fv kvs k y) (storedH xs k b u):=by
 have e:(kvs.any fun kv=>decide (kv.1=k))=(atKey xs k).isSome:=by rw [fK,(r.val k).isSome_eq,Av]
 unfold fv storedH;rw [e]
 by_cases q:(atKey xs k).isSome=true
 ·rw [zq2 q,zq2 q];exact r.repl k ry
 ·rw [zq1 q,zq1 q];exact Paired.snoc r (zAB rfl hb ry)
theorem KT.keeps{H H':Hp}{kvs:List (List Key×V)}{xs:List (List Key×Addr×Value)}(r:KT H kvs xs)(ht:∀b ys,H b=some (.tup ys)->H' b=some (.tup ys)):KT H' kvs xs:=
 Paired.mapP r fun _ _ z=>zAB z.1 (ht _ _ z.2.1) z.2.2
section
variable {P:Program} {w:World} {H:Hp} {h:Heap} {a:Addr}
theorem D7{u:HO}(ok:HOk P w H h)(e:Rd H a u):ObjOk P w H h a u:=e.ok ok
theorem jA{kvs:List (Key×V)}(ok:HOk P w H h)(e:Rd H a (.dK kvs)):kvs.length<=sizeLine/\(a==sysModules)=false/\∃vs,KV kvs vs/\h.DictOf (bB P w) a vs:=
 show ObjOk P w H h a (.dK kvs) from D7 ok e
theorem Ht{kvs:List (Key×V)}(ok:HOk P w H h)(e:H a=some (.dK kvs)):kvs.length<=sizeLine/\(a==sysModules)=false/\∃vs,KV kvs vs/\h.DictOf (bB P w) a vs:=jA ok (.inl e)
theorem gz{ks:List Key}(ok:HOk P w H h)(e:H a=some (.tup (ks.map kV))):(tupleKind (bB P w)).is h ks a:=by
 obtain ⟨_,its,r,o,h1,h2,n,h3⟩:=(show ObjOk P w H h a (.tup (ks.map kV)) from ok a _ e)
 exact zAO o its.toArray n h1 h2 h3 (by simpa using lJ r)
theorem lA{kvs:List (List Key×V)}(ok:HOk P w H h)(e:Rd H a (.dT kvs)):kvs.length<=sizeLine/\(a==sysModules)=false/\
  ∃xs,KT H kvs xs/\h.DictOfH (tupleKind (bB P w)) a xs:=by
 obtain ⟨z,y,xs,r,o,es,ep,h1,h2,h3,h4,h5⟩:=(show ObjOk P w H h a (.dT kvs) from D7 ok e)
 refine zAB z y (zn xs r (zBA o es ep h1 h2 h3 h4 (fun x hx=>?_) h5));have all:∀{l:List (List Key×V)} {m:List (List Key×Addr×Value)},KT H l m->∀x∈m,(tupleKind (bB P w)).is h x.1 x.2.1:=by
  intro l m q
  induction q with
  |nil=>intro x hx;exact nomatch hx
  | @cons p q ps qs hq t ih=>
   intro x hx;rcases zq11.mp hx with e | hx
   ·subst e;exact gz ok (by rw [<- hq.1];exact hq.2.1)
   ·exact ih x hx
 exact all r x hx
theorem xO{kvs:List (List Key×V)}(ok:HOk P w H h)(e:H a=some (.dT kvs)):kvs.length<=sizeLine/\(a==sysModules)=false/\
  ∃xs,KT H kvs xs/\h.DictOfH (tupleKind (bB P w)) a xs:=lA ok (.inl e)
end
def DGet(H:Hp)(a:Addr)(y:V)(r:Option V):Prop:=
 (∃kvs k,Rd H a (.dK kvs)/\y=kV k/\r=ce kvs k)\/∃kvs k b,Rd H a (.dT kvs)/\y=.ref b/\H b=some (.tup (k.map kV))/\r=ce kvs k
def DPut(H:Hp)(a:Addr)(y v:V)(H':Hp):Prop:=
 (∃kvs k,H a=some (.dK kvs)/\y=kV k/\kvs.length<sizeLine/\H'=upd H a (.dK (fv kvs k v)))\/
 ∃kvs k b,H a=some (.dT kvs)/\y=.ref b/\H b=some (.tup (k.map kV))/\kvs.length<sizeLine/\H'=upd H a (.dT (fv kvs k v))
theorem DGet.k{H:Hp}{a:Addr}{kvs:List (Key×V)}{k:Key}(e:H a=some (.dK kvs)):DGet H a (kV k) (ce kvs k):=.inl (zAA kvs k (.inl e) rfl rfl)
theorem DGet.t{H:Hp}{a b:Addr}{kvs:List (List Key×V)}{k:List Key}(e:H a=some (.dT kvs))(eb:H b=some (.tup (k.map kV))):DGet H a (.ref b) (ce kvs k):=.inr (zAO kvs k b (.inl e) rfl eb rfl)
theorem DPut.k{H:Hp}{a:Addr}{kvs:List (Key×V)}{k:Key}{v:V}(e:H a=some (.dK kvs))(hl:kvs.length<sizeLine):DPut H a (kV k) v (upd H a (.dK (fv kvs k v))):=.inl (zAD kvs k e rfl hl rfl)
theorem DPut.t{H:Hp}{a b:Addr}{kvs:List (List Key×V)}{k:List Key}{v:V}(e:H a=some (.dT kvs))(eb:H b=some (.tup (k.map kV)))(hl:kvs.length<sizeLine):
  DPut H a (.ref b) v (upd H a (.dT (fv kvs k v))):=.inr (zAI kvs k b e rfl eb hl rfl)
section
variable {X:Cx} {pins:List (Addr×Obj)} {σ:St} {H:Hp} {s:Shared} {a:Addr} {y v:V} {u r:Value} {o:Option V} {A:Around} {E:Value->Shared->Prop}
theorem Inv.big(I:Inv X pins σ H s):sysModules<s.heap.objs.size:=by have h:mainGlobals<s.heap.objs.size:=(I.mod.glob.keeps I.bk).lt;exact Nat.lt_trans Jkm h
theorem vG{Q:Value->Shared->Prop}(hu:A.units+1<cLine)(I:Inv X pins σ H s)(g:DGet H a y (some v))(ry:RelV y u)(h:∀w' s',Inv X pins σ H s'->RelV v w'->Q w' s'):
  wpAny (model X.prog X.w) A (getItem (.ref a) u) Q E s:=by
 rcases g with ⟨kvs,k,e,ey,l⟩ | ⟨kvs,k,b,e,ey,eb,l⟩
 ·subst ey;obtain ⟨z,hd,vs,rel,dd⟩:=jA I.hok e;obtain ⟨w',hw,rw'⟩:=RelO.some_of (v:=v) (o:=valueAt vs k) (by rw [l];exact rel.val k);exact wpAny_getItem_of (lO ry) dd.mapOf hw (h w' _ (I.tok _) rw')
 ·subst ey
  cases (show u=Value.ref b from ry)
  obtain ⟨z,hd,xs,rel,dd⟩:=lA I.hok e;obtain ⟨w',hw,rw'⟩:=RelO.some_of (v:=v) (o:=(atKey xs k).map (·.2)) (by rw [l];exact rel.val k);obtain ⟨p,hp,hp2⟩:=zq47.mp hw;refine wpAny_getItem_heap (tupleKind_room_in1 hu) (gz I.hok eb) dd hp ?_;rw [hp2];exact h w' _ (I.tok _) rw'
theorem Jr{Q:Value->Shared->Prop}(hu:A.units+1<cLine)(I:Inv X pins σ H s)(g:DGet H a y o)(ry:RelV y u)(h:∀s',Inv X pins σ H s'->Q (.bool o.isSome) s'):
  wpAny (model X.prog X.w) A (compareOp .In u (.ref a)) Q E s:=by
 rcases g with ⟨kvs,k,e,ey,l⟩ | ⟨kvs,k,b,e,ey,eb,l⟩
 ·subst ey;obtain ⟨z,hd,vs,rel,dd⟩:=jA I.hok e;refine wpAny_in_of (lO ry) hd dd.mapOf ?_;rw [<- (rel.val k).isSome_eq,<- l];exact h _ (I.tok _)
 ·subst ey
  cases (show u=Value.ref b from ry)
  obtain ⟨z,hd,xs,rel,dd⟩:=lA I.hok e;refine wpAny_in_heap (tupleKind_room_in1 hu) (gz I.hok eb) hd dd ?_;have q:=(rel.val k).isSome_eq;rw [Av] at q;rw [<- q,<- l];exact h _ (I.tok _)
theorem Bn{Q:Value->Shared->Prop}(hu:A.units+1<cLine)(I:Inv X pins σ H s)(g:DGet H a y o)(ry:RelV y u)(h:∀s',Inv X pins σ H s'->Q (.bool (! o.isSome)) s'):
  wpAny (model X.prog X.w) A (compareOp .NotIn u (.ref a)) Q E s:=by
 rcases g with ⟨kvs,k,e,ey,l⟩ | ⟨kvs,k,b,e,ey,eb,l⟩
 ·subst ey;obtain ⟨z,hd,vs,rel,dd⟩:=jA I.hok e;refine wpAny_notIn_of (lO ry) hd dd.mapOf ?_;rw [<- (rel.val k).isSome_eq,<- l];exact h _ (I.tok _)
 ·subst ey
  cases (show u=Value.ref b from ry)
  obtain ⟨z,hd,xs,rel,dd⟩:=lA I.hok e;refine wpAny_notIn_heap (tupleKind_room_in1 hu) (gz I.hok eb) hd dd ?_;have q:=(rel.val k).isSome_eq;rw [Av] at q;rw [<- q,<- l];exact h _ (I.tok _)
theorem gQ{h':Heap}{t':Nat}{ob:HO}(I:Inv X pins σ H s)(mu:Mut (H a))(hs:Heap.SameBut a s.heap h')(he:∃q,h'.get? a=some q)(new:ObjOk X.prog X.w (upd H a ob) h' a ob):
  Inv X pins σ (upd H a ob) {s with heap:=h',toks:=t'}:=
 I.write (x:=a) (e:=a) mu (.inl rfl) (fun b q hb z=>(hs.2 b hb).trans z) he new
theorem Ez{P:Program}{w:World}{H':Hp}{h':Heap}{kvs:List (Key×V)}{vs:List (Key×Value)}(z:kvs.length<=sizeLine)(hd:(a==sysModules)=false)(rel:KV kvs vs)(dd:h'.DictOf (bB P w) a vs):
  ObjOk P w H' h' a (.dK kvs):=zAB z hd (zn vs rel dd)
theorem vH{H':Hp}{Q:Unit->Shared->Prop}(hu:A.units+1<cLine)(I:Inv X pins σ H s)(g:DPut H a y v H')(ry:RelV y u)(rv:RelV v r)(h:∀s',Inv X pins σ H' s'->Q () s'):
  wpAny (model X.prog X.w) A (setItem (.ref a) u r) Q E s:=by
 rcases g with ⟨kvs,k,e,ey,l,eH⟩ | ⟨kvs,k,b,e,ey,eb,l,eH⟩
 ·subst ey eH;obtain ⟨z,hd,vs,rel,dd⟩:=Ht I.hok e;have hz:vs.length<=sizeLine:=by rw [<- rel.length];exact z
  have hl:(fv kvs k v).length<=sizeLine:=by have:=iQ kvs k v;omega
  refine wpAny_setItem_pairs (hsz:=hz) (lO ry) dd fun h' dd' hs=>h _ ?_;have he:∃q,h'.get? a=some q:=let ⟨q,_,_,hq,_⟩:=dd';⟨q,hq⟩;exact gQ I (by rw [e];exact True.intro) hs he (Ez hl hd (rel.put k rv) dd')
 ·subst ey eH
  cases (show u=Value.ref b from ry)
  obtain ⟨z,hd,xs,rel,dd⟩:=xO I.hok e;have hz:xs.length<=sizeLine:=by rw [<- Paired.length rel];exact z
  have hl:(fv kvs k v).length<=sizeLine:=by have:=iQ kvs k v;omega
  refine wpAny_setItem_heap (hsz:=hz) (tupleKind_room_in1 hu) (gz I.hok eb) dd fun h' dd' hs=>h _ ?_;obtain ⟨q,es,ep,hq,h2,h3,h4,_,h5⟩:=dd';refine gQ I (by rw [e];exact True.intro) hs ⟨q,hq⟩ (zAB hl hd (zn _ ((rel.put k eb rv).keeps fun c ys ec=>?_) (zAI q es ep hq h2 h3 h4 h5)));rw [ao (du ec e (fun z=>nomatch z))];exact ec
end
section
variable {X:Cx} {pins:List (Addr×Obj)} {σ:St} {H:Hp} {s:Shared} {a:Addr} {kvs:List (Key×V)} {k:Key} {u:Value} {A:Around} {E:Value->Shared->Prop}
theorem Hs{Q:Value->Shared->Prop}(I:Inv X pins σ H s)(e:Rd H a (.dK kvs))(h:∀t s',Inv X pins σ H s'->Q (.int kvs.length t) s'):wpAny (model X.prog X.w) A (call (.builtin "len") [.ref a]) Q E s:=by obtain ⟨z,hd,vs,rel,dd⟩:=jA I.hok e;refine call_len_dict hd dd (by rw [<- rel.length];rw [b9] at z;omega) ?_;rw [<- rel.length];exact h _ _ (I.tok _)
end
def Ek(i:Expr):Prop:=∀ov iv,subscripted i false ov iv=operate [ov,iv] (getItem ov iv)
theorem uU{prog:Program}{w:World}{A:Around}{E:Value->Shared->Prop}{s:Shared}{env:Env}{value slice:Expr}{pos:Pos}{T id:String}{Q:Value->Shared->Prop}
  (hl:typeLookup (.type T) "__getitem__"=pure (some (.builtin id))) (hs:Ek slice)
  (h:wpAny (model prog w) A (eval value env) (fun o s₁=>wpAny (model prog w) A (eval slice env) (fun i s₂=>s₂.TypeIs o T/\wpAny (model prog w) A (getItem o i) Q E s₂) E s₁) E s) :
  wpAny (model prog w) A (eval (.Subscript value slice pos) env) Q E s:=by
 refine Subscript_ (ij h (fun o s₁ h₁=>ij h₁ (fun i s₂ h₂=>?_) fun _ _ x=>x) fun _ _ x=>x);obtain ⟨hT,h₂⟩:=h₂;unfold subscriptTail;refine zq0 ?_;rw [getitemInPython_of_ne hT.not_modules];refine zq0 (wpAny_specialOf hT hl ?_);have fin:wpAny (model prog w) A (subscripted slice false o i) (fun r s₃=>wpAny (model prog w) A (letTemporaryGo value o r >>= fun _=>pure r) Q E s₃) E s₂:=by rw [hs o i];exact wpAny_operating (ij h₂ (fun r s₃ h₃=>zq0 (wpAny_letTemporaryGo (zq3 h₃))) fun _ _ x=>x)
 first
  |exact zq3 (zq0 fin)
  |exact zq0 (zq3 (zq0 fin))
  |exact zq0 fin
theorem ox{X:Cx}{pins:List (Addr×Obj)}{σ:St}{H:Hp}{s:Shared}{a:Addr}{y:V}{o:Option V}(I:Inv X pins σ H s)(g:DGet H a y o):s.TypeIs (.ref a) "dict":=by
 rcases g with ⟨kvs,k,e,_,_⟩ | ⟨kvs,k,b,e,_,_,_⟩
 ·obtain ⟨_,_,vs,_,dd⟩:=jA I.hok e;exact dd.typeIs
 ·obtain ⟨_,_,xs,_,dd⟩:=lA I.hok e;exact dd.typeIs
def DZ(td ty:TE):TE:=fun σ H Q=>td σ H fun x H1=>ty σ H1 fun y H2=>∃a v,x=.ref a/\DGet H2 a y (some v)/\Q v H2
def J0(ty td:TE):TE:=fun σ H Q=>ty σ H fun y H1=>td σ H1 fun x H2=>∃a o,x=.ref a/\DGet H2 a y o/\Q (.bl o.isSome) H2
def jl(ty td:TE):TE:=fun σ H Q=>ty σ H fun y H1=>td σ H1 fun x H2=>∃a o,x=.ref a/\DGet H2 a y o/\Q (.bl (! o.isSome)) H2
def zD(td ty tv:TE):TS:=fun D σ H=>tv σ H fun v H1=>td σ H1 fun x H2=>ty σ H2 fun y H3=>∃a H4,x=.ref a/\DPut H3 a y v H4/\D.nx σ H4
section
variable {X:Cx} {o i e value:Expr} {pos pos' tpos:Pos} {td ty tv:TE}
theorem Cb(hu:X.A.units+1<cLine)(ho:PE X o td)(hi:PE X i ty)(hv:PE X value tv)(hs:swapsWith value (some (.Subscript o i pos')) pos.line X.env=pure false):
  PS X (.Assign [.Subscript o i pos'] value pos) (zD td ty tv):=by
 intro pins s σ H D I h;refine wpAny_Assign_Subscript (thn (hv pins s σ H _ I h) fun r s1 ⟨v,H1,I1,rv,q1⟩=>thn (ho pins s1 σ H1 _ I1 q1) fun u s2 ⟨x,H2,I2,rx,q2⟩=>thn (hi pins s2 σ H2 _ I2 q2) fun iv s3 hhx=>?_) hs;obtain ⟨y,H3,I3,ry,a,H4,ex,g,q3⟩:=hhx;subst ex;obtain rfl:u=Value.ref a:=rx;exact vH hu I3 g ry rv fun s4 I4=>zAE σ H4 I4 q3
end
theorem xJ{P:Program}{w:World}{H:Hp}(h:Heap)(hb:sysModules<h.objs.size):ObjOk P w H (h.push {cls:=.type "dict",data:=.dict #[]}) h.objs.size (.dK []):=
 (zAB (bT _) (beq_eq_false_iff_ne.mpr (Ne.symm (cf hb))) (zn ([]) .nil (Heap.DictOf.new h)))
theorem oy{P:Program}{w:World}{H:Hp}(h:Heap)(hb:sysModules<h.objs.size):ObjOk P w H (h.push {cls:=.type "dict",data:=.dict #[]}) h.objs.size (.dT []):=
 (zAB (bT _) (beq_eq_false_iff_ne.mpr (Ne.symm (cf hb))) (zn ([]) .nil (zAI _ (#[]) 0 (cF _ rfl) (zAB rfl rfl rfl) rfl rfl vf)))
def A5:TE:=fun _ H Q=>∀p,H p=none->Q (.ref p) (upd H p (.dK []))
def A7:TE:=fun _ H Q=>∀p,H p=none->Q (.ref p) (upd H p (.dT []))
section
variable {X:Cx} {pos:Pos}
end
structure M1(X:Cx)(o:Expr)(m:Str)(apos:Pos)(e:Expr)(cpos:Pos):Prop where
 base:attributeBase o m X.env (eval o X.env)=eval o X.env
 few:((backTo cpos (starEach [e] X.env)).all (fun x=>! x.1)&&(backToKw cpos (keywordEach [] X.env)).all (fun x=>x.1.isSome)
  && decide (([e]:List Expr).length+([]:List Keyword).length+(if ([]:List Keyword).isEmpty then 0 else 1)<30))=true
 line:(apos.endLine==cpos.line)=true
 trees:backTo cpos (starEach [e] X.env)=[(false,eval e X.env)]
def IsD(H:Hp)(a:Addr):Prop:=(∃kvs,Rd H a (.dK kvs))\/∃kvs,Rd H a (.dT kvs)
theorem EI{X:Cx}{pins:List (Addr×Obj)}{σ:St}{H:Hp}{s:Shared}{a:Addr}(I:Inv X pins σ H s)(d:IsD H a):
  s.TypeIs (.ref a) "dict"/\(∀b,Value.ref a=.ref b->∃ob,s.heap.get? b=some ob/\ob.dict=none)/\(a==sysModules)=false:=by
 rcases d with ⟨kvs,e⟩ | ⟨kvs,e⟩
 ·obtain ⟨_,hd,vs,_,dd⟩:=jA I.hok e;refine zAB dd.typeIs (fun b q=>?_) hd
  cases q
  obtain ⟨ob,_,_,h1,h2,_⟩:=dd;exact zn ob h1 h2.2.1
 ·obtain ⟨_,hd,xs,_,dd⟩:=lA I.hok e;refine zAB dd.typeIs (fun b q=>?_) hd
  cases q
  obtain ⟨ob,_,_,h1,h2,_⟩:=dd;exact zn ob h1 h2.2.1
section
variable {X:Cx} {pins:List (Addr×Obj)} {σ:St} {H:Hp} {s:Shared} {a:Addr} {y d:V} {u r:Value} {o:Option V} {A:Around} {E:Value->Shared->Prop}
end
section
variable {X:Cx} {o e f:Expr} {apos cpos:Pos} {td ty tx:TE}
end
section
variable {X:Cx} {pins:List (Addr×Obj)} {σ:St} {H:Hp} {s:Shared} {a:Addr} {kvs:List (Key×V)} {A:Around} {E:Value->Shared->Prop}
end
section
variable {X:Cx} {pins:List (Addr×Obj)} {σ:St} {H:Hp} {s:Shared} {a:Addr} {y:V} {u:Value} {A:Around} {E:Value->Shared->Prop}
end
end L2
end
namespace Att
open PySem PySem.W PySem.Calls PyProof.Rows
theorem j4{P:Params}{h:Heap}:∀(ns:List Int)(vs:List Value),WellAll P h vs (ns.map WData.int)->IntsAre vs ns:=by
 intro ns
 induction ns with
 |nil=>
  intro vs w;rw [B0] at w
  cases w
  exact .nil
 |cons n ns ih=>
  intro vs w;rw [cm] at w
  cases w with
  |cons a b=>
   cases a
   exact .cons _ _ (ih _ b)
theorem wL{l:OpenLaw}{n:Nat}(hn:l.most=some n){P:Params}{h:Heap}{args:List WData}{vals:List Value}
  (hpre:l.row.toRowW.claim.pre args=true) (hwl:WellAll P h vals args) :
  ∃a vs ns,vals=[Value.ref a]/\args=[WData.list (ns.map WData.int)]/\h.get? a=some {cls:=.type "list",data:=.seq vs.toArray}/\IntsAre vs ns/\ns.length<=n:=by
 have hsh:WShape.hasAll [] args [.list .int]=true:=(pre_splitW hpre).1;have hc:l.pre.holds [] {args:=args}=true:=(pre_splitW hpre).2;obtain ⟨d,r,rfl,h1,h2⟩:=hasAllW_cons hsh;obtain rfl:=hasAllW_nil h2;obtain ⟨xs,rfl,h3⟩:=hasW_list h1;obtain ⟨ns,rfl⟩:=items_int h3;have hlen:ns.length<=n:=by
  unfold OpenLaw.pre at hc;have h4:(WTm.not (.lt (.lit (.int (n:Int))) (.len (.arg 0)))).holds [] {args:=[.list (ns.map .int)]}=true:=by have h4:=(holds_andW hc).1;rw [hn] at h4;exact h4
  have h5:=condW_of h4 (w_not (w_lt w_lit (w_len_list (w_arg rfl))));rw [zq4] at h5;refine Nat.le_of_not_lt fun q=>?_;have q':(n:Int)<((ns.length:Nat):Int):=by omega
  first
   | (rw [bC q'] at h5;exact absurd h5 Jkm)
   | (simp at h5;omega)
 cases hwl with
 |cons w1 w2=>
  cases w2
  cases w1 with
  |list ho hall=>exact zAI _ _ ns rfl rfl ho (j4 ns _ hall) hlen
theorem wy(l:OpenLaw)(args:List WData):l.row.toRowW.claim.post args (.bool true) args=true:=
 postW_of (r:=l.row.toRowW) (X:=(true==true))
  (show WShape.has [] (.bool true) .bool=true by first | rfl | decide | simp [WShape.has,WShape.arms,WShape.armsAll])
  (show (WTm.eq .res (.lit (.bool true))).value [] {args:=args,res:=some (.bool true),after:=args}=some (.bool (true==true)) from w_eq_bool (w_res rfl) w_lit) rfl
section
variable {prog:Program} {w:World} {A:Around} {E:Value->Shared->Prop} {s:Shared} {K:Frag}
end
end Att
namespace L2
open PySem PySem.Spec PyProof.Rows
theorem fW:∀{vs:List Value} {ns:List Int},IntsAre vs ns->Vals (ns.map V.int) vs
 |_,_,.nil=>.nil
 |_,_,.cons n t h=>.cons ⟨t,rfl⟩ (fW h)
def El(H:Hp):Prop:=∀b,H b=none\/∃o xs,H b=some (.frz o (.lst xs))
theorem ya{P:Program}{w:World}{K:W.Frag}{mg mb:Str->Option Value}{CX:CXT}{k:Nat}{fa a:Addr}{fd:FuncData}{x:Str}{sp:Sp}{s₁:Shared}{vs:List Value}{ns:List Int}
  (KX:K.In s₁.heap) (hns:s₁.heap.Ns mainGlobals mg) (hb:s₁.heap.Ns builtinsNs mb) (hbb:∀x:Str,x≠"__name__"->mb x=bootBuiltins x) (hlim:s₁.heap.NoLimit) (hg:s₁.gens=#[])
  (ha:s₁.heap.get? a=some {cls:=.type "list",data:=.seq vs.toArray}) (hi:IntsAre vs ns) (hl:ns.length<=sizeLine) (hr:Room k callerA)
  (F:∀base:Heap,K.In base->base.Ns mainGlobals mg->FnOk P w K mg base CX k fa fd [x] sp) (hbind:∀(s:Shared)(u:Value),BindsTo s fd ⟨[u],[]⟩ [(x,u)])
  (hsp:∀H:Hp,El H->SqL K H a (ns.map V.int)->sp [.ref a] H (fun v _=>v=.bl true) fun _ _ _=>False)
  (hCX:∀H e s',CX [] H s₁ (fun _ _ _=>False) e s'->False) :
  codeAny (model P w) callerA (.call (.ref fa) ⟨[.ref a],[]⟩) (fun r s'=>r=.ok (.ret (.bool true))/\OldK s₁.heap s'.heap/\s'.os=s₁.os/\AllBare s'.gens) s₁:=by
 have rv:=fW hi;have lenV:=hi.length;have core:∀H:Hp,El H->SqL K H a (ns.map V.int)->HOk P w H s₁.heap->(∀b,H b≠none->b=a)->(H a≠none->K.lookup a=none)->
   codeAny (model P w) callerA (.call (.ref fa) ⟨[.ref a],[]⟩) (fun r s'=>r=.ok (.ret (.bool true))/\OldK s₁.heap s'.heap/\s'.os=s₁.os/\AllBare s'.gens) s₁:=by
  intro H hO hS hok hA hK;have base_of:∀{b:Addr} {o:Obj},s₁.heap.get? b=some o->H b=none->(mB s₁.heap H).get? b=some o:=fun e n=>xX e n;have noA:∀{b:Addr} {o:Obj} {es:Array DictEntry} {ep:Nat},s₁.heap.get? b=some o->o.data=.dict es ep->H b=none:=fun {b o es ep} e d=>by
   cases q:H b with
   |none=>rfl
   |some u=>
    have e':b=a:=hA b (by rw [q];simp);subst e';rw [ha] at e;cases e;have d':Data.seq vs.toArray _=Data.dict es ep:=d
    cases d'
  have nsK:∀{b:Addr} {m:Str->Option Value},s₁.heap.Ns b m->(mB s₁.heap H).Ns b m:=fun {b m} ⟨o,es,ep,e,d,r⟩=>zAN o es ep (base_of e (noA e d)) d r
  have hKb:K.In (mB s₁.heap H):=fun b o e=>base_of (KX b o e) (by
   cases q:H b with
   |none=>rfl
   |some u=>have e':b=a:=hA b (by rw [q];simp);subst e';rw [hK (by rw [q];simp)] at e;cases e)
  have hM:Mod K mg (mB s₁.heap H):=⟨hKb,nsK hns,zn mb (nsK hb) hbb,let ⟨mc,h1,h2⟩:=hlim;(zn mc (nsK h1) h2)⟩
  have e0:Env0 P w K mg (mB s₁.heap H) callerA [] s₁ H:=⟨rfl,hM,fun b o e=>BN e,Nat.le_of_eq (vO _ _),trivial,fun b hb=>absurd (show b∈([]:List Addr) from hb) Jll,hok,.of_eq hg⟩
  refine codeAny_mono ((F _ hKb (nsK hns)).run callerA [] s₁ H ⟨[.ref a],[]⟩ [.ref a] [.ref a] _ _ hr e0 (hbind s₁ (.ref a)) (.cons rfl .nil) (hsp H hO hS)) fun r s' h=>?_
  cases r with
  |error e=>exact (hCX H e s' h).elim
  |ok fl=>
   cases fl with
   |next=>exact False.elim h
   |brk=>exact False.elim h
   |cont=>exact False.elim h
   |ret u=>
    obtain ⟨v,H',os,bare,un,hok',r',q⟩:=h;have q':v=.bl true:=q;subst q';obtain rfl:u=Value.bool true:=r';refine zAF rfl (OldK.of_keep fun b o e=>?_) os bare
    cases q:H b with
    |none=>exact un.keep b o e q (by intro z;exact absurd (show b∈([]:List Addr) from z) Jll) Jll
    |some u=>
     rcases hO b with z | ⟨ob,xs,z⟩
     ·rw [q] at z;cases z
     ·have z2:=un.frzs b ob _ z;obtain ⟨e1,_⟩:=hok b _ z;obtain ⟨e2,_⟩:=hok' b _ z2;rw [e] at e1;cases e1;exact e2
 cases hk:K.lookup a with
 |some o=>
  have e:=KX a o hk;rw [ha] at e
  cases e
  refine core (fun _=>none) (fun _=>.inl rfl) (.inr (zBA _ vs.toArray _ hk rfl rfl rfl (by rw [dZ,lenV];exact hl) (by simpa using rv))) (fun b u z=>by have z':(none:Option HO)=some u:=z;cases z') (fun b z=>absurd rfl z) fun z=>absurd rfl z
 |none=>
  refine core (fun b=>if b=a then some (.frz {cls:=.type "list",data:=.seq vs.toArray} (.lst (ns.map V.int))) else none) (fun b=>?_) (.inl (.inr ⟨{cls:=.type "list",data:=.seq vs.toArray},zq2 rfl⟩)) (fun b u z=>?_) (fun b z=>?_) fun _=>hk
  ·by_cases hb:b=a
   ·exact .inr (zAH _ _ (zq2 hb))
   ·exact .inl (zq1 hb)
  ·by_cases hb:b=a
   ·have z':=(zq2 hb).symm.trans z
    cases z'
    subst hb;exact zAB ha (by rw [zq4];exact hl) (zAE vs _ rv ha)
   ·have z':=(zq1 hb).symm.trans z
    cases z'
  ·by_cases hb:b=a
   ·exact hb
   ·exact absurd (zq1 hb) z
end L2
namespace L2
open PySem PySem.Spec PyProof.Rows
end L2
/- THE LAST THEOREM (shape;LID,My.* are yours):
   My.Adr: a structure of the addresses that your layer names (classes,functions);My.Txt K t: a structure (Prop) of the equations over K;
   My.txt_mk:{K} {implicit addresses ..} (e1:nsIn K mainGlobals "law"=some (some (.ref f))) (e2:K.lookup f=some ⟨oc,od,.func (fnOf "law" "law" params body scope dV kV doc pm an cdv ct),sl⟩) (e3:codeIn K cdv "law"=true) ..:∃t,My.Txt K t
set_option maxRecDepth 100000 in
set_option maxHeartbeats 0 in
theorem PySem.Challenge.cw_LID_holds:PySem.Challenge.rw_LID.Holds:=by
 w_on;o_law;k_head;(case hw=>w_witness2)
 k_fill
 refine L2.walk_of (l:=PySem.Challenge.rw_LID) (n:=63) (k:=40) (x:="script") (CX:=fun w=>..) (sp:=fun _=>My.sp_law) rfl Jkm rfl ⟨rfl,Jkm,Jkm⟩ (fun w h Y=>W.kIn_of Y) ?F ?S ?C
 case F=>
  intro w mg fa h KX G hmg;have T:∃t,My.Txt (L2.KOf KX) t:=by
   dsimp only [L2.KOf]                          -- K must stand as «<heap const> w.params» for k_is;refine' My.txt_mk ?e1 ?e2 ?e3 ..
   (case e1=>W.k_is)                    -- in the order: a name->its address->its object->its parts
   (case e2=>W.k_is)
   ..
  obtain ⟨t,T⟩:=T;have e0:=hmg.symm.trans (W.mg_of KX G T.law)
  cases e0                                       -- fa is the law's own address
  exact ⟨_,fun s u=>.of_eq rfl,fun base kb nb=>My.law_fn T kb nb⟩     -- if «.of_eq rfl» comes too early: refine' ⟨_,?b,fun base kb nb=>My.law_fn T kb nb⟩;exact fun s u=>.of_eq rfl
 case S=>exact fun w H a ns hl hO hS=>..
 case C=>exact ..
(the tactic k_is has no namespace: write k_is) -/
section
open PySem PySem.Spec PyProof.Rows
namespace L2
variable {H:Hp} {f:Addr} {qual x:Str}
def cu(s:Stmt)(j:Nat):Stmt:=match s with
 | .ClassDef _ _ _ body _ _ _ _ _ _ _=>body.getD j (.Pass ⟨0,0,0,0⟩)
 |_=>.Pass ⟨0,0,0,0⟩
def dw(s:Stmt):Arguments:=match s with
 | .FunctionDef _ a _ _ _ _ _ _ _ _=>a
 |_=>{posonlyargs:=[],args:=[],vararg:=none,kwonlyargs:=[],kw_defaults:=[],kwarg:=none,defaults:=[]}
def d6(s:Stmt):List Stmt:=match s with
 | .FunctionDef _ _ b _ _ _ _ _ _ _=>b
 |_=>[]
def ax(s:Stmt):Scope:=match s with
 | .FunctionDef _ _ _ _ _ _ sc _ _ _=>sc
 |_=>{kind:=.function,names:=[],isGenerator:=false,isCoroutine:=false}
abbrev CX0:CXT:=fun _ _ _ _ _ _=>False
abbrev E0:XK:=fun _ _ _=>False
theorem pv{X:Cx}:eU CX0 X E0:=fun _ _ _ _ _ _ _ h=>h.elim
structure Fun(K:W.Frag)(x qual:Str)(st:Stmt)(f:Addr)(fd:FuncData):Prop where
 ex:∃(oc:Value)(od:Option Addr)(kV doc pm:Value)(an:Option Addr)(cdv ct:Value)(osl:Array (Option Value)),
  fd=W.fnOf x qual (dw st) (d6 st) (ax st) .none kV doc pm an cdv ct/\K.lookup f=some ⟨oc,od,.func fd,osl⟩/\W.codeIn K cdv qual=true
 kp:W.keepIn K (.ref f)=true
section
variable {P:Program} {w:World} {K:W.Frag} {mg:Str->Option Value} {base:Heap}
theorem Fun.ok{st:Stmt}{fd:FuncData}{N ps:List Str}{k:Nat}{sp:Sp}(F:Fun K x qual st f fd)(S:aG N ps (ax st))(len:∀vs H Q E,sp vs H Q E->vs.length=ps.length)
 (hbody:∀(cdv:Value)(A:Around)(outer:List Env)(s:Shared)(H:Hp)(vs:List V)(Q:VK)(E:XK),Room k (A.deeper (envOfC qual (ax st) s.heap.objs.size f cdv))->sp vs H Q E->
 ∃t,PSs (oh CX0 P w K mg base N qual (ax st) f cdv A outer s H E).nox (d6 st) t/\t {nx:=fun _ H'=>Q .non H',rt:=Q} (aP N vs) H):FnOk P w K mg base CX0 (k+1) f fd ps sp:=by
 obtain ⟨oc,od,kV,doc,pm,an,cdv,ct,osl,rfl,lk,hcd⟩:=F.ex;refine Hw lk hcd S len fun A outer s H vs Q E hr hsp=>?_;obtain ⟨t,h,q⟩:=hbody cdv A outer s H vs Q E hr hsp;exact zn t h.nox q
theorem Fun.binds{st:Stmt}{fd:FuncData}{ps:List Str}(F:Fun K x qual st f fd)
 (h:∀(kV doc pm:Value)(an:Option Addr)(cdv ct:Value)(us:List Value),us.length=ps.length->bindArgs (W.fnOf x qual (dw st) (d6 st) (ax st) .none kV doc pm an cdv ct) ⟨us,[]⟩=pure (ps.zip us)):Binds K fd ps []:=by
 obtain ⟨oc,od,kV,doc,pm,an,cdv,ct,osl,rfl,lk,hcd⟩:=F.ex;exact .all (h kV doc pm an cdv ct)
theorem mz{st:Stmt}{oc:Value}{od an:Option Addr}{osl:Array (Option Value)}{kV doc pm cdv ct:Value}(l:K.lookup f=some ⟨oc,od,.func (W.fnOf x qual (dw st) (d6 st) (ax st) .none kV doc pm an cdv ct),osl⟩)
 (c:W.codeIn K cdv qual=true) (k:W.keepIn K (.ref f)=true):Fun K x qual st f (W.fnOf x qual (dw st) (d6 st) (ax st) .none kV doc pm an cdv ct):=⟨zBG oc od kV doc pm an cdv ct osl (zAB rfl l c),k⟩
end
theorem lE{A:Around}{k:Nat}(hr:Room k A):A.units+1<cLine:=B1 (vg (by decide:1<=64) _) hr.units
section
variable {X:Cx}
end
theorem Jt{A B:Prop}(h:B):if false=true then A else B:=by rw [zq1 bz];exact h
theorem Ju{A B:Prop}(h:A):if true=true then A else B:=by rw [zq2 rfl];exact h
def Same(H H':Hp):Prop:=∀b o,H b=some o->H' b=some o
theorem Same.refl(H:Hp):Same H H:=fun _ _ h=>h
theorem Same.trans{H1 H2:Hp}(a:Same H H1)(b:Same H1 H2):Same H H2:=fun c o h=>b c o (a c o h)
theorem Same.free{H':Hp}(e:Same H H'){l:Addr}(h:H' l=Option.none):H l=Option.none:=by
 cases q:H l with
 |none=>rfl
 |some o=>
  rw [e l o q] at h
  cases h
theorem Same.seq{K:W.Frag}{H':Hp}{a:Addr}{xs:List V}(e:Same H H')(h:SqL K H a xs):SqL K H' a xs:=by
 rcases h with (h | ⟨o,h⟩) | h
 ·exact .inl (.inl (e _ _ h))
 ·exact .inl (.inr ⟨o,e _ _ h⟩)
 ·exact .inr h
end L2
namespace L2
section
variable {X:Cx}
theorem vz:dM X (.builtin "len") (fun xs H Q=>∃a kvs,xs=[V.ref a]/\H a=some (.dK kvs)/\Q (.int kvs.length) H):=by
 intro pins s σ H xs us Q I r h;obtain ⟨a,kvs,rfl,ha,q⟩:=h;obtain ⟨u,rfl,ru⟩:=fu r
 cases ru
 exact Hs I (.inl ha) fun t s' I'=>zAA (.int kvs.length) H I' ⟨t,rfl⟩ q
end
section
variable {κ:Type} [DecidableEq κ]
end
end L2
namespace L2
section
variable {X:Cx}
def CDivB(i j:Int):Prop:=0<j/\j.natAbs.log2<9000
theorem yB:OpR X (binaryOp .FloorDiv) (rI CDivB fun i j=>.int (i / j)):=opI fun i j _ _ _ _ _ hc q=>by have h1:(0:Int)<j:=hc.1;exact floordiv_int Jlk (by rw [Int.fdiv_eq_ediv_of_nonneg i Jlk];exact q) (.inl (PyProof.noPylong_of_log2 hc.2))
theorem C0:OpR X (binaryOp .Mult) (rI IntMulOk fun i j=>.int (i * j)):=opI fun _ _ _ _ _ _ _ hc q=>mul_int q hc
theorem CDivB.small{i j:Int}(h:0<j)(h2:j<1073741824):CDivB i j:=⟨h,by have h3:j.natAbs.log2<30:=(Nat.log2_lt Jlk).mpr Jlk;omega⟩
end
theorem aU{c A B:Prop}[Decidable c](h1:c->A)(h2:¬c->B):if decide c=true then A else B:=by
 by_cases h:c
 ·rw [zq2 (bC h)];exact h1 h
 ·rw [zq1 (fun q=>h (of_decide_eq_true q))];exact h2 h
theorem y7{c A B:Prop}[Decidable c](h1:¬c->A)(h2:c->B):if (! decide c)=true then A else B:=by
 by_cases h:c
 ·rw [bC h];exact Jt (h2 h)
 ·rw [bh h];exact Ju (h1 h)
structure bv(K:W.Frag)(mg:Str->Option Value)(x:Str)(st:Stmt)(ps:List Str)(f:Addr)(fd:FuncData):Prop where
 F:Fun K x x st f fd
 B:Binds K fd ps []
 M:mg x=some (.ref f)
theorem yJ{X:Cx}{k:Nat}{f:Addr}{fd:FuncData}{ps:List Str}{sp:Sp}{x:Str}{st:Stmt}{p pos:Pos}{e:Expr}{es:List Expr}{t:TA}(D:bv X.K X.mg x st ps f fd)(G:FnOk X.prog X.w X.K X.mg X.base CX0 k f fd ps sp)(hr:Room k X.A)
  (ha:PA X (e::es) t) (hg:Gl X x:=by rfl) (hdb:(x==("__debug__":Str))=false:=by decide) (he:starEach (e::es) X.env=(false,eval e X.env)::starEach es X.env:=by rfl) (hpl:(backTo pos (starEach es X.env)).any (·.1)=false:=by rfl) :
  PE X (.Call (.Name x p) (e::es) [] pos) (q9 sp [] E0 t):=C4 G hr hg D.M D.F.kp D.B .nil pv ha hdb he hpl
def Ite(K:W.Frag)(a:Addr):It:=
  ⟨fun i H=>∃xs x,SqL K H a xs/\xs[i]?=some x,
   fun i H x H'=>∃p y,x=.ref p/\H p=none/\H'=upd H p (.tup [.int i,y])/\∀xs,SqL K H a xs->xs[i]?=some y,
   fun i H=>∃xs,SqL K H a xs/\xs.length<=i⟩
theorem wO{P:Program}{w:World}{K:W.Frag}{elts:List Expr}{k0:Nat}{pos0:Pos}(a e it:Addr)(hei:e≠it):
  kI P w K (.Tuple elts k0 pos0) (Ite K a) [e,it] e (fun i h=>(∃old,IsEnum h e it i old)/\h.IsListIter it a i) where
 mem:=by simp
 obj:=fun i h ⟨⟨old,he⟩,hit⟩ b hb=>by
  rcases zq11.mp hb with rfl | hb
  ·exact ⟨_,he,fun v z=>by
    have z':Data.fields _=Data.cell v:=z
    cases z'⟩
  ·have e':b=it:=by simpa using hb
   subst e';obtain ⟨o,q,c,d⟩:=hit;exact zn o q (fun v z=>by rw [d] at z;cases z)
 keep:=fun i h h' ⟨⟨old,he⟩,hit⟩ k=>⟨⟨old,k e Jll _ he⟩,hit.at fun o q=>k it Jll o q⟩
 item:=by
  intro X hP hw hK hc i pins s σ H E I hf st hg;subst hP hw hK;obtain ⟨xs,x,hq,hx⟩:=hg;obtain ⟨its,rv,p,hz⟩:=I.list hq;obtain ⟨u,hu,ru⟩:=rv.get hx;obtain ⟨⟨old,he⟩,hit⟩:=st;obtain ⟨f0,f1,f2,f3,f4,f5⟩:=hf e Jll;obtain ⟨g0,g1,g2,g3,g4,g5⟩:=hf it Jll;refine wpAny_pyNext_enum_item he hit p.isList (x:=u) (by simpa using hu) hei fun h1 ho hit1 hT hsz hk=>?_;refine zn _ rfl (wpAny_letOwnedTupleGo_enum ho fun h2 he2 hs2=>?_);replace hs2:Heap.SameBut e h1 h2:=hs2;have helt:e<s.heap.objs.size:=bH he;have hk2:∀b o,b≠e->b≠it->s.heap.get? b=some o->h2.get? b=some o:=fun b o b1 b2 q=>(hs2.2 b b1).trans (hk b o b1 b2 q);have hT2:h2.get? s.heap.objs.size=some {cls:=.type "tuple",data:=.seq #[.int i s.toks,u]}:=(hs2.2 _ (sH helt)).trans hT;have hn:H s.heap.objs.size=none:=I.hok.fresh (zq6 _);have nE:∀b v,H b=some v->b≠e:=fun b v q z=>by rw [z,f0] at q;cases q
  have nI:∀b v,H b=some v->b≠it:=fun b v q z=>by rw [z,g0] at q;cases q
  have ok2:HOk X.prog X.w H h2:=fun b v q=>(I.hok b v q).stay (fun c v' hc r=>by
   rcases hc with z | z
   ·exact hk2 c v' (by rw [z];exact nE b v q) (by rw [z];exact nI b v q) r
   ·exact hk2 c v' (nE c _ z) (nI c _ z) r) (fun _ r=>r) fun _ _ r=>r
  have ok3:HOk X.prog X.w (upd H s.heap.objs.size (.tup [.int i,x])) h2:=fun b v q=>by
   by_cases hb:b=s.heap.objs.size
   ·subst hb;rw [ae] at q
    cases q
    exact ⟨by show 2<=sizeLine;decide,zn ([.int i s.toks,u]) (.cons ⟨_,rfl⟩ (.cons ru .nil)) (zAC _ hT2 rfl ⟨_,rfl⟩)⟩
   ·rw [ao hb] at q;exact (ok2 b v q).stay (fun c v' _ r=>r) (fun c r=>by rw [ao (am r hn)];exact r) fun c ys r=>by rw [ao (am r hn)];exact r
  have nlt:∀{b:Addr} {o:Obj},s.heap.get? b=some o->b≠s.heap.objs.size:=fun q=>cf (bH q);have I2:Inv X pins σ (upd H s.heap.objs.size (.tup [.int i,x])) {s with heap:=h2,toks:=s.toks+1}:=
   I.step (g':=s.gens) (d':=s.drawn) (ch:=[e,it]) (fun b hb=>by
     rcases zq11.mp hb with rfl | hb
     ·exact zAF f3 f1 f4 f5
     ·have e':b=it:=by simpa using hb
      subst e';exact zAF g3 g1 g4 g5)
    (fun b o _ _ hc q _=>hk2 b o (fun z=>hc (by simp [z])) (fun z=>hc (by simp [z])) q)
    (fun b o _ _ hc q _=>⟨o.slots,hk2 b o (fun z=>hc (by simp [z])) (fun z=>hc (by simp [z])) q⟩)
    (fun b o _ q n=>by rw [ao (nlt q)];exact n)
    (fun b o hc q=>⟨o,hk2 b o (fun z=>hc (by simp [z])) (fun z=>hc (by simp [z])) q⟩)
    (fun b ys q=>by rw [ao (am q hn)];exact q) (fun b o v q=>by rw [ao (am q hn)];exact q) (fun b ps q=>⟨#[],by rw [ao (am q hn),q];simp⟩)
    (fun m ⟨o,es,ep,hm,r⟩=>zAK o es ep (hk2 _ o (Ne.symm f1) (Ne.symm g1) hm) r) ok3 I.bare
  refine zAP (.ref s.heap.objs.size) _ I2 rfl (zAD _ x rfl hn rfl (fun ys hy=>by rw [I.list_inj hy hq];exact hx)) ⟨⟨_,by simpa using he2⟩,hit1.at fun o y=>(hs2.2 it hei.symm).trans y⟩ fun b hb=>?_;rcases zq11.mp hb with rfl | hb
  ·rw [ao (cf helt)];exact f0
  ·have e':b=it:=by simpa using hb
   subst e';obtain ⟨o,q,_⟩:=hit;rw [ao (nlt q)];exact g0
 done:=by intro X hP hw hK hc i pins s σ H E I hf st hg;subst hP hw hK;obtain ⟨xs,hq,hx⟩:=hg;obtain ⟨its,rv,p,hz⟩:=I.list hq;obtain ⟨⟨old,he⟩,hit⟩:=st;obtain ⟨g0,g1,g2,g3,g4,g5⟩:=hf it Jll;have hl:=rv.length;exact wpAny_pyNext_enum_end (I.ok.hd hc) he hit p.isList (by simp;omega) fun h' eb=>⟨rfl,I.turned (t':=s.toks) (it:=it) (fun b o hb q=>eb b o hb q) g0 g1 g3 g4 g5⟩
 self:=fun _ _ _ _ _ ⟨⟨_,he⟩,_⟩ h=>wpAny_pyIter_enum he h
def xZ(K:W.Frag)(ta:TA):TI:=fun σ H R=>ta σ H fun vs H1=>∃a,vs=[.ref a]/\(∃xs,SqL K H1 a xs)/\R (Ite K a) H1
theorem C8{X:Cx}{a:Expr}{ta:TA}{p pos pos0:Pos}{elts:List Expr}{k0:Nat}(hm:X.mg "enumerate"=none) (ha:PA X [a] ta) (hg:Gl X "enumerate":=by rfl) (hs:starEach [a] X.env=[(false,eval a X.env)]:=by rfl) :
  PI X (.Tuple elts k0 pos0) (.Call (.Name "enumerate" p) [a] [] pos) (xZ X.K ta):=by
 intro pins s σ H R I h;refine Call_ (dP I hg hm boot_enumerate (PyProof.Rows.callWith_type1 (thn (ha pos pins s σ H _ I h) fun us s1 hhx=>?_) hs rfl));obtain ⟨vs,H1,I1,r1,q1⟩:=hhx;obtain ⟨l,e,⟨xs,hq⟩,q⟩:=q1;subst e
 cases r1 with
 |cons r rr=>
  cases rr
  cases r
  obtain ⟨its,rv,pl,hz⟩:=I1.list hq;refine call_enumerate_list pl.isList fun h' he hit hsz hk=>?_;refine wpAny_pyIter_enum he ?_;have I2:Inv X pins σ H1 {s1 with heap:=h'}:=I1.kept (t':=s1.toks) hk;refine zAT (s1.heap.objs.size+1) ([s1.heap.objs.size+1,s1.heap.objs.size]) _ _ H1 rfl I2 (wO l _ _ (Nat.succ_ne_self _)) ⟨⟨_,he⟩,hit⟩ (fun b hb=>?_) q;have hle:s1.heap.objs.size<=b:=by
   rcases zq11.mp hb with rfl | hb
   ·exact x9 _
   ·rw [zq9.mp hb];exact zq6 _
  exact I1.fpOk hle (I1.hok.fresh hle)
theorem xR{K:W.Frag}{a:Addr}{xs:List V}{g:TG}{tb:TS}{D:cY}{σ:St}{H:Hp}(Pv:Nat->St->Hp->Prop)(h0:Pv 0 σ H)(hl:∀i σ H,i<=xs.length->Pv i σ H->SqL K H a xs)
  (hs:∀(i:Nat)x σ H p,xs[i]?=some x->H p=none->Pv i σ H->g (.ref p) σ (upd H p (.tup [.int i,x])) fun σ2 H2=>tb {D with nx:=Pv (i+1),ct:=Pv (i+1),bk:=D.nx} σ2 H2) (hd:∀σ H,Pv xs.length σ H->D.nx σ H) :
  ∃W:Nat->Nat->St->Hp->Prop,(∃m,W 0 m σ H)/\∀i m σ H,W i m σ H->
   ((Ite K a).stop i H/\D.nx σ H)\/((Ite K a).go i H/\∃N:St->Hp->Prop,(∀σ' H',N σ' H'->∃m',m'<m/\W (i+1) m' σ' H')/\∀x H',(Ite K a).yld i H x H'->g x σ H' fun σ2 H2=>tb {D with nx:=N,ct:=N,bk:=D.nx} σ2 H2):=by
 refine zn (fun i m σ H=>m=xs.length-i/\i<=xs.length/\Pv i σ H) (zAC xs.length Jll (bT _) h0) ?_;rintro i m σ H ⟨rfl,hi,p⟩;have q:=hl i σ H hi p
 by_cases hlt:i<xs.length
 ·refine .inr ⟨zAE xs (xs[i]) q (by simp [hlt]),zn (Pv (i+1)) (fun σ' H' p'=>zAG (xs.length-(i+1)) Jlk rfl hlt p') fun x H' y=>?_⟩;obtain ⟨pp,z,ex,hn,eH,y⟩:=y;subst ex eH;exact hs i z σ H pp (y xs q) hn p
 ·have e:i=xs.length:=by omega
  subst e;exact .inl ⟨zn xs q (zq6 _),hd σ H p⟩
theorem nQ{ns:List Int}(h:W.WData.layableAll [W.WData.list (ns.map W.WData.int)]=true):∀n∈ns,Builtin.Int.intBits n<=2 ^ 20:=fun n hn=>by have h1:=(W.layW_cons h).1;have h2:=W.layableW_item h1 (W.WData.int n) (zq43.mpr (zn n hn rfl));exact PyData.bits_of_layable (W.layable0_of_all (W.lay0_int h2))
section
open PySem.W PySem.Calls
theorem Ak{l:W.OpenLaw}{n k:Nat}{q:Program}{loose:List Str}{XP:(Str->Option Value)->Heap->Prop}{YP:World->Heap->Prop}{d:DefRec}{K:Params->W.Frag}{CX:World->CXT}{sp:World->Sp}{x:Str}
  (hn:l.most=some n) (hn2:n<=sizeLine) (hdf:d.params.defaults=[]) (hr:Room k callerA)
  (hY:∀(w:World)(h:Heap),YP w h->(K w.params).In h)
  (F:∀(w:World)(mg:Str->Option Value)(fa:Addr)(h:Heap),(K w.params).In h->h.Ns mainGlobals mg->mg d.name=some (.ref fa)->
   ∃fd:FuncData,(∀(s:Shared)(u:Value),BindsTo s fd ⟨[u],[]⟩ [(x,u)])/\
    ∀base:Heap,(K w.params).In base->base.Ns mainGlobals mg->FnOk l.prog w (K w.params) mg base (CX w) k fa fd [x] (sp w))
  (hsp:∀(w:World)(H:Hp)(a:Addr)(ns:List Int),ns.length<=n->(∀z∈ns,Builtin.Int.intBits z<=2 ^ 20)->El H->SqL (K w.params) H a (ns.map V.int)->sp w [.ref a] H (fun v _=>v=.bl true) fun _ _ _=>False)
  (hCX:∀(w:World)(H:Hp)(s:Shared)(e:Value)(s':Shared),CX w [] H s (fun _ _ _=>False) e s'->False) :
  W.WalkO q loose XP YP l.row.toRowW d [] (fun f vs=>PySem.call f vs):=by
 intro w s₀ s₁ mg mb G Y fa o pm cd doc dV kV ho hd hcd hD hmg hg args vals as hpre hlay hrd hwl hlo;obtain rfl:dV=.none:=Dflts.none hD hdf;obtain rfl:kV=.none:=Dflts.noKw hD;obtain ⟨a,vs,ns,rfl,rfl,hobj,hints,hlen⟩:=Att.wL hn hpre hwl;have KX:=hY w _ Y;obtain ⟨fd,hb,hF⟩:=F w mg fa _ KX G.T.g hmg;refine enter_call (codeAny_mono (ya KX G.T.g G.T.b G.T.builtins G.T.nolimit hg hobj hints (dX hlen hn2) hr hF hb (fun H hO hS=>hsp w H a ns hlen (nQ hlay) hO hS) fun H e s'=>hCX w H s₁ e s') fun r s' hq=>?_);obtain ⟨rfl,h2,h3,h4⟩:=hq;exact zAF (.inl (zAI (.bool true) (.bool true) ([]) rfl (fun _=>rfl) (.bool true) (Att.wy l _) fun _=>⟨List.Pairwise.nil,fun _ hm=>(nomatch hm)⟩)) h2 h3 h4
end
end L2
namespace L2
variable {a p:Addr} {a0 a1 a10 a11 a12 a13 a14 a15 a2 a3 a4 a5 a6 a7 a8 a9 b:Option V} {i j:Int} {n:Nat} {r:St} {ta te:TE} {xs:List V}
section
variable {H:Hp} {Q:VK} {σ:St} {D:cY}
theorem JG{v:V}{Z:St->Hp->Prop}:bD 0 v (b::r) H Z=Z (some v::r) H:=rfl
theorem JH{v:V}{Z:St->Hp->Prop}:bD 1 v (a0::b::r) H Z=Z (a0::some v::r) H:=rfl
theorem JI{v:V}{Z:St->Hp->Prop}:bD 2 v (a0::a1::b::r) H Z=Z (a0::a1::some v::r) H:=rfl
theorem JJ{v:V}{Z:St->Hp->Prop}:bD 3 v (a0::a1::a2::b::r) H Z=Z (a0::a1::a2::some v::r) H:=rfl
theorem JK{v:V}{Z:St->Hp->Prop}:bD 4 v (a0::a1::a2::a3::b::r) H Z=Z (a0::a1::a2::a3::some v::r) H:=rfl
theorem JL{v:V}{Z:St->Hp->Prop}:bD 5 v (a0::a1::a2::a3::a4::b::r) H Z=Z (a0::a1::a2::a3::a4::some v::r) H:=rfl
theorem JM{v:V}{Z:St->Hp->Prop}:bD 6 v (a0::a1::a2::a3::a4::a5::b::r) H Z=Z (a0::a1::a2::a3::a4::a5::some v::r) H:=rfl
theorem JN{v:V}{Z:St->Hp->Prop}:bD 7 v (a0::a1::a2::a3::a4::a5::a6::b::r) H Z=Z (a0::a1::a2::a3::a4::a5::a6::some v::r) H:=rfl
theorem JO{v:V}{Z:St->Hp->Prop}:bD 8 v (a0::a1::a2::a3::a4::a5::a6::a7::b::r) H Z=Z (a0::a1::a2::a3::a4::a5::a6::a7::some v::r) H:=rfl
theorem JP{v:V}{Z:St->Hp->Prop}:bD 9 v (a0::a1::a2::a3::a4::a5::a6::a7::a8::b::r) H Z=Z (a0::a1::a2::a3::a4::a5::a6::a7::a8::some v::r) H:=rfl
theorem Iu{v:V}{Z:St->Hp->Prop}:bD 10 v (a0::a1::a2::a3::a4::a5::a6::a7::a8::a9::b::r) H Z=Z (a0::a1::a2::a3::a4::a5::a6::a7::a8::a9::some v::r) H:=rfl
theorem Iv{v:V}{Z:St->Hp->Prop}:bD 11 v (a0::a1::a2::a3::a4::a5::a6::a7::a8::a9::a10::b::r) H Z=Z (a0::a1::a2::a3::a4::a5::a6::a7::a8::a9::a10::some v::r) H:=rfl
theorem Iw{v:V}{Z:St->Hp->Prop}:bD 12 v (a0::a1::a2::a3::a4::a5::a6::a7::a8::a9::a10::a11::b::r) H Z=Z (a0::a1::a2::a3::a4::a5::a6::a7::a8::a9::a10::a11::some v::r) H:=rfl
theorem Iy{v:V}{Z:St->Hp->Prop}:bD 13 v (a0::a1::a2::a3::a4::a5::a6::a7::a8::a9::a10::a11::a12::b::r) H Z=Z (a0::a1::a2::a3::a4::a5::a6::a7::a8::a9::a10::a11::a12::some v::r) H:=rfl
theorem Iz{v:V}{Z:St->Hp->Prop}:bD 14 v (a0::a1::a2::a3::a4::a5::a6::a7::a8::a9::a10::a11::a12::a13::b::r) H Z=Z (a0::a1::a2::a3::a4::a5::a6::a7::a8::a9::a10::a11::a12::a13::some v::r) H:=rfl
theorem IA{v:V}{Z:St->Hp->Prop}:bD 15 v (a0::a1::a2::a3::a4::a5::a6::a7::a8::a9::a10::a11::a12::a13::a14::b::r) H Z=Z (a0::a1::a2::a3::a4::a5::a6::a7::a8::a9::a10::a11::a12::a13::a14::some v::r) H:=rfl
theorem IB{v:V}{Z:St->Hp->Prop}:bD 16 v (a0::a1::a2::a3::a4::a5::a6::a7::a8::a9::a10::a11::a12::a13::a14::a15::b::r) H Z=Z (a0::a1::a2::a3::a4::a5::a6::a7::a8::a9::a10::a11::a12::a13::a14::a15::some v::r) H:=rfl
theorem IC{v:V}{Z:St->Hp->Prop}{a16:Option V}:bD 17 v (a0::a1::a2::a3::a4::a5::a6::a7::a8::a9::a10::a11::a12::a13::a14::a15::a16::b::r) H Z=Z (a0::a1::a2::a3::a4::a5::a6::a7::a8::a9::a10::a11::a12::a13::a14::a15::a16::some v::r) H:=rfl
theorem ID{v:V}{Z:St->Hp->Prop}{a16:Option V}{a17:Option V}:bD 18 v (a0::a1::a2::a3::a4::a5::a6::a7::a8::a9::a10::a11::a12::a13::a14::a15::a16::a17::b::r) H Z=Z (a0::a1::a2::a3::a4::a5::a6::a7::a8::a9::a10::a11::a12::a13::a14::a15::a16::a17::some v::r) H:=rfl
theorem r_c{v:V}:tC v σ H Q=Q v H:=rfl
theorem JT{r:R2}{tb:TE}:tOp r ta tb σ H Q=ta σ H fun x H1=>tb σ H1 fun y H2=>r x y H2 Q:=rfl
theorem JW{r:V->Hp->VK->Prop}:tUn r ta σ H Q=ta σ H fun x H1=>r x H1 Q:=rfl
theorem oj:decide (V.int i=V.int j)=decide (i=j):=by
 by_cases h:i=j
 ·rw [bC h,bC (congrArg V.int h)]
 ·rw [bh h,bh fun q=>h (V.int.inj q)]
theorem om{i j:Str}:decide (V.str i=V.str j)=decide (i=j):=by
 by_cases h:i=j
 ·rw [bC h,bC (congrArg V.str h)]
 ·rw [bh h,bh fun q=>h (V.str.inj q)]
theorem Bo{i j:Bool}:decide (V.bl i=V.bl j)=decide (i=j):=by
 by_cases h:i=j
 ·rw [bC h,bC (congrArg V.bl h)]
 ·rw [bh h,bh fun q=>h (V.bl.inj q)]
theorem Im:rEq (.int i) (.int j) H Q=Q (.bl (decide (i=j))) H:=by show (pH (.int i) (.int j)=true/\Q (.bl (decide (V.int i=V.int j))) H)=_;rw [oj];exact propext ⟨fun h=>h.2,fun h=>⟨rfl,h⟩⟩
theorem Io{i j:Str}:rEq (.str i) (.str j) H Q=Q (.bl (decide (i=j))) H:=by show (pH (.str i) (.str j)=true/\Q (.bl (decide (V.str i=V.str j))) H)=_;rw [om];exact propext ⟨fun h=>h.2,fun h=>⟨rfl,h⟩⟩
theorem Il{i j:Bool}:rEq (.bl i) (.bl j) H Q=Q (.bl (decide (i=j))) H:=by show (pH (.bl i) (.bl j)=true/\Q (.bl (decide (V.bl i=V.bl j))) H)=_;rw [Bo];exact propext ⟨fun h=>h.2,fun h=>⟨rfl,h⟩⟩
theorem IK:rNe (.int i) (.int j) H Q=Q (.bl (! decide (i=j))) H:=by show (pH (.int i) (.int j)=true/\Q (.bl (! decide (V.int i=V.int j))) H)=_;rw [oj];exact propext ⟨fun h=>h.2,fun h=>⟨rfl,h⟩⟩
theorem IL{i j:Str}:rNe (.str i) (.str j) H Q=Q (.bl (! decide (i=j))) H:=by show (pH (.str i) (.str j)=true/\Q (.bl (! decide (V.str i=V.str j))) H)=_;rw [om];exact propext ⟨fun h=>h.2,fun h=>⟨rfl,h⟩⟩
theorem FC{c:Bool}{Z:Bool->Prop}:(∃k,V.bl c=V.bl k/\Z k)=Z c:=propext ⟨by rintro ⟨_,e,q⟩;cases e;exact q,by intro q;exact zn c rfl q⟩
theorem Ck{c:Int}{Z:Int->Prop}:(∃k,V.int c=V.int k/\Z k)=Z c:=propext ⟨by rintro ⟨_,e,q⟩;cases e;exact q,by intro q;exact zn c rfl q⟩
theorem Gp{t:TE}{Z:Bool->Hp->Prop}:Aa t σ H Z=t σ H fun x H'=>∃k,x=.bl k/\Z k H':=rfl
theorem r_B{t:TE}{Z:Bool->Hp->Prop}:tB t σ H Z=t σ H fun x H'=>∃k,x=.bl k/\Z k H':=rfl
theorem Ig{t u:TT}{Z:Bool->Hp->Prop}:IY t u σ H Z=t σ H fun c H1=>if c=true then u σ H1 Z else Z false H1:=rfl
theorem JU{t u:TT}{Z:Bool->Hp->Prop}:tOr t u σ H Z=t σ H fun c H1=>if c=true then Z true H1 else u σ H1 Z:=rfl
theorem IN{t:TT}{Z:Bool->Hp->Prop}:J5 t σ H Z=t σ H fun c H1=>Z (! c) H1:=rfl
theorem Fl{tb:TE}:DX ta tb σ H Q=ta σ H fun x H1=>∃c,x=.bl c/\if c=true then tb σ H1 Q else Q (.bl false) H1:=rfl
theorem IO{tb:TE}:J6 ta tb σ H Q=ta σ H fun x H1=>∃c,x=.bl c/\if c=true then Q (.bl true) H1 else tb σ H1 Q:=rfl
theorem Gg:E3 ta σ H Q=ta σ H fun x H1=>∃c,x=.bl c/\Q (.bl (! c)) H1:=rfl
theorem JQ{t:TT}{tb:TE}:tIf t ta tb σ H Q=t σ H fun c H1=>if c=true then ta σ H1 Q else tb σ H1 Q:=rfl
theorem Gf:E2 D σ H=D.nx σ H:=rfl
theorem zl{t u:TS}:GU t u D σ H=t {D with nx:=u D} σ H:=rfl
theorem Fq:DY D σ H=D.ct σ H:=rfl
theorem Fu:E1 te D σ H=te σ H fun _ H1=>D.nx σ H1:=rfl
theorem IR:A8 te D σ H=te σ H D.rt:=rfl
theorem D2{c:TT}{t u:TS}:GT c t u D σ H=c σ H fun b H1=>if b=true then t D σ H1 else u D σ H1:=rfl
theorem Ii{g:TG}:CC te g D σ H=te σ H fun x H1=>g x σ H1 D.nx:=rfl
theorem JD{r:List V->Hp->VK->Prop}{t:TA}:tCB r t σ H Q=t σ H fun vs H1=>r vs H1 Q:=rfl
theorem IM{Z:List V->Hp->Prop}:qa σ H Z=Z [] H:=rfl
theorem Fp{tr:TA}{Z:List V->Hp->Prop}:A3 ta tr σ H Z=ta σ H fun x H1=>tr σ H1 fun xs H2=>Z (x::xs) H2:=rfl
theorem Fo{sp:Sp}{E:XK}{t:TA}:q9 sp [] E t σ H Q=t σ H fun vs H1=>sp vs H1 Q E:=by show (t σ H fun vs H1=>sp (vs++[]) H1 Q E)=_;simp only [List.append_nil]
theorem IU{t:TA}:J7 t σ H Q=t σ H fun xs H1=>xs.length<=sizeLine/\∀p,H1 p=none->Q (.ref p) (upd H1 p (.tup xs)):=rfl
theorem IJ{t:TA}:J4 t σ H Q=t σ H fun xs H1=>xs.length<=sizeLine/\∀p,H1 p=none->Q (.ref p) (upd H1 p (.lst xs)):=rfl
theorem Fs{td ty:TE}:DZ td ty σ H Q=td σ H fun x H1=>ty σ H1 fun y H2=>∃a v,x=.ref a/\DGet H2 a y (some v)/\Q v H2:=rfl
theorem JV{r:V->Option Int->Option Int->Hp->VK->Prop}{tl th:TO}:tSl r te tl th σ H Q=te σ H fun x H1=>tl σ H1 fun l H2=>th σ H2 fun u H3=>r x l u H3 Q:=rfl
theorem zi{Z:Option Int->Hp->Prop}:uW σ H Z=Z none H:=rfl
theorem Gi{Z:Option Int->Hp->Prop}:E4 te σ H Z=te σ H fun x H1=>∃i,x=.int i/\Z (some i) H1:=rfl
theorem FE{Z:St->Hp->Prop}:Hx [] σ H Z=Z σ H:=propext ⟨fun h=>h.2,fun h=>⟨rfl,h⟩⟩
theorem Cm{t:TG}{u:TGs}{v:V}{r:List V}{Z:St->Hp->Prop}:CT t u (v::r) σ H Z=t v σ H fun σ' H'=>u r σ' H' Z:=propext ⟨by rintro ⟨_,_,e,q⟩;cases e;exact q,by intro q;exact zAE v r rfl q⟩
theorem IF{A B:Prop}:(if false=true then A else B)=B:=zq1 bz
theorem JS:(! true)=false:=rfl
theorem JR:(! false)=true:=rfl
theorem FU:(([]:List V).length<=sizeLine)=True:=eq_true (by show 0<=sizeLine;decide)
theorem FV{a0:V}:(([a0]:List V).length<=sizeLine)=True:=eq_true (by show 1<=sizeLine;decide)
theorem FY{a0 a1:V}:(([a0,a1]:List V).length<=sizeLine)=True:=eq_true (by show 2<=sizeLine;decide)
theorem G0{a0 a1 a2:V}:(([a0,a1,a2]:List V).length<=sizeLine)=True:=eq_true (by show 3<=sizeLine;decide)
theorem G7{a0 a1 a2 a3:V}:(([a0,a1,a2,a3]:List V).length<=sizeLine)=True:=eq_true (by show 4<=sizeLine;decide)
theorem G8{a0 a1 a2 a3 a4 a5 a6:V}:(([a0,a1,a2,a3,a4,a5,a6]:List V).length<=sizeLine)=True:=eq_true (by show 7<=sizeLine;decide)
theorem G9{a0 a1 a2 a3 a4 a5 a6 a7:V}:(([a0,a1,a2,a3,a4,a5,a6,a7]:List V).length<=sizeLine)=True:=eq_true (by show 8<=sizeLine;decide)
end
def nC(J:It)(g:TG)(tb:TS)(D:cY)(σ:St)(H1:Hp):Prop:=∃W:Nat->Nat->St->Hp->Prop,(∃m,W 0 m σ H1)/\∀i m σ H,W i m σ H->
 (J.stop i H/\D.nx σ H)\/(J.go i H/\∃N:St->Hp->Prop,(∀σ' H',N σ' H'->∃m',m'<m/\W (i+1) m' σ' H')/\∀x H',J.yld i H x H'->g x σ H' fun σ2 H2=>tb {D with nx:=N,ct:=N,bk:=D.nx} σ2 H2)
section
variable {g:TG} {tb:TS} {D:cY} {σ:St} {H:Hp}
theorem Ir{wi:TI}:GS wi g tb D σ H=wi σ H fun J H1=>nC J g tb D σ H1:=rfl
theorem Co{K:W.Frag}{ta:TA}{R:It->Hp->Prop}:xZ K ta σ H R=ta σ H fun vs H1=>∃a,vs=[.ref a]/\(∃xs,SqL K H1 a xs)/\R (Ite K a) H1:=rfl
theorem Cq{K:W.Frag}{tl:TE}{R:It->Hp->Prop}:CU K tl σ H R=tl σ H fun x H1=>∃a,x=.ref a/\(∃xs,SqL K H1 a xs)/\R (Itl K a) H1:=rfl
theorem FK{K:W.Frag}{tl:TE}{R:It->Hp->Prop}:HA K tl σ H R=tl σ H fun x H1=>∃a,x=.ref a/\(∃xs,SqT K H1 a xs)/\R (Itt K a) H1:=rfl
theorem Cr{ta:TA}{R:It->Hp->Prop}:CV ta σ H R=ta σ H fun vs H1=>∃j:Int,vs=[.int j]/\-(2 ^ 62)<=j/\j<2 ^ 62/\R (Itr 0 j.toNat) H1:=rfl
theorem Fv{c:Int}{Z:Int->Prop}:(∃k,[V.int c]=[V.int k]/\Z k)=Z c:=propext ⟨by rintro ⟨_,e,q⟩;cases e;exact q,by intro q;exact zn c rfl q⟩
theorem Fw{c:Addr}{Z:Addr->Prop}:(∃k,[V.ref c]=[V.ref k]/\Z k)=Z c:=propext ⟨by rintro ⟨_,e,q⟩;cases e;exact q,by intro q;exact zn c rfl q⟩
theorem Ip{c:Addr}{Z:Addr->Prop}:(∃k,V.ref c=V.ref k/\Z k)=Z c:=propext ⟨by rintro ⟨_,e,q⟩;cases e;exact q,by intro q;exact zn c rfl q⟩
theorem xV{lo:Int}(Pv:Nat->St->Hp->Prop)(h0:Pv 0 σ H)
 (hs:∀(i:Nat)σ H,i<n->Pv i σ H->g (.int (lo+i)) σ H fun σ2 H2=>tb {D with nx:=Pv (i+1),ct:=Pv (i+1),bk:=D.nx} σ2 H2) (hd:∀σ H,Pv n σ H->D.nx σ H):nC (Itr lo n) g tb D σ H:=vL Pv h0 hs hd
theorem fO(Pv:Nat->St->Hp->Prop)(h0:Pv 0 σ H)
 (hs:∀(i:Nat)σ H,i<n->Pv i σ H->g (.int (i:Int)) σ H fun σ2 H2=>tb {D with nx:=Pv (i+1),ct:=Pv (i+1),bk:=D.nx} σ2 H2) (hd:∀σ H,Pv n σ H->D.nx σ H):nC (Itr 0 n) g tb D σ H:=
 xV Pv h0 (fun i σ H hi p=>by rw [Int.zero_add];exact hs i σ H hi p) hd
theorem tR{K:W.Frag}(Pv:Nat->St->Hp->Prop)(h0:Pv 0 σ H)(hl:∀i σ H,i<=xs.length->Pv i σ H->SqL K H a xs)
 (hs:∀(i:Nat)x σ H p,xs[i]?=some x->H p=none->Pv i σ H->g (.ref p) σ (upd H p (.tup [.int i,x])) fun σ2 H2=>tb {D with nx:=Pv (i+1),ct:=Pv (i+1),bk:=D.nx} σ2 H2) (hd:∀σ H,Pv xs.length σ H->D.nx σ H):nC (Ite K a) g tb D σ H:=xR Pv h0 hl hs hd
theorem cr{K:W.Frag}(Pv:Nat->St->Hp->Prop)(h0:Pv 0 σ H)(hl:∀i σ H,i<=xs.length->Pv i σ H->SqL K H a xs)
 (hs:∀(i:Nat)x σ H,xs[i]?=some x->Pv i σ H->g x σ H fun σ2 H2=>tb {D with nx:=Pv (i+1),ct:=Pv (i+1),bk:=D.nx} σ2 H2) (hd:∀σ H,Pv xs.length σ H->D.nx σ H):nC (Itl K a) g tb D σ H:=xS Pv h0 hl hs hd
theorem Same.upd{H:Hp}{o:HO}(h:H p=none):Same H (upd H p o):=fun b u e=>by rw [ao (am e h)];exact e
theorem Same.seqT{K:W.Frag}{H H':Hp}(e:Same H H')(h:SqT K H a xs):SqT K H' a xs:=by
 rcases h with (h | ⟨o,h⟩) | h
 ·exact .inl (.inl (e _ _ h))
 ·exact .inl (.inr ⟨o,e _ _ h⟩)
 ·exact .inr h
end
section
variable {H:Hp} {Q:VK} {σ:St} {D:cY} {K:W.Frag}
theorem JF{T:String}{r:V->List V->Hp->VK->Prop}{to:TE}{t:TA}:tBM K T r to t σ H Q=to σ H fun x H1=>tyV K T x H1/\t σ H1 fun xs H2=>r x xs H2 Q:=rfl
theorem Ij{T:String}{r:V->List V->Hp->VK->Prop}{to:TE}:IZ K T r to σ H Q=to σ H fun x H1=>tyV K T x H1/\r x [] H1 Q:=rfl
theorem IH{z:Str}:HY (.str z) (.int i) H Q=(z.length<=sizeLine/\∃c,atI z.cps.toList i=some c/\Q (.str ⟨#[c]⟩) H):=propext ⟨by rintro ⟨_,_,c,e1,e2,h1,h2,q⟩;cases e1;cases e2;exact ⟨h1,zn c h2 q⟩,by rintro ⟨h1,c,h2,q⟩;exact zAI _ _ c rfl rfl h1 h2 q⟩
theorem IG:Fk K (.ref p) (.int i) H Q=∃xs v,SqL K H p xs/\atI xs i=some v/\Q v H:=propext ⟨by rintro ⟨_,xs,_,v,e1,e2,h1,h2,q⟩;cases e1;cases e2;exact zAA xs v h1 h2 q,by rintro ⟨xs,v,h1,h2,q⟩;exact zAM _ xs _ v rfl rfl h1 h2 q⟩
theorem D3:Ce K (.ref p) (.int i) H Q=∃xs v,SqT K H p xs/\atI xs i=some v/\Q v H:=propext ⟨by rintro ⟨_,xs,_,v,e1,e2,h1,h2,q⟩;cases e1;cases e2;exact zAA xs v h1 h2 q,by rintro ⟨xs,v,h1,h2,q⟩;exact zAM _ xs _ v rfl rfl h1 h2 q⟩
theorem Ik{b:Addr}:HX (.ref a) (.ref b) H Q=∃xs zs,H a=some (.lst xs)/\H b=some (.lst zs)/\xs.length+zs.length<=sizeLine/\∀p,H p=none->Q (.ref p) (upd H p (.lst (xs++zs))):=propext ⟨by rintro ⟨_,_,xs,zs,e1,e2,h⟩;cases e1;cases e2;exact zAH xs zs h,by rintro ⟨xs,zs,h⟩;exact zBD _ _ xs zs (zAB rfl rfl h)⟩
theorem IS{lo hi:Option Int}:Ic K (.ref a) lo hi H Q=∃xs,SqL K H a xs/\∀p,H p=none->Q (.ref p) (upd H p (.lst (g8 xs lo hi))):=propext ⟨by rintro ⟨_,xs,e1,h⟩;cases e1;exact ⟨xs,h⟩,by rintro ⟨xs,h⟩;exact zAE _ xs rfl h⟩
theorem za{y:V}:uo (.ref a) [y] H Q=∃xs,H a=some (.lst xs)/\xs.length<sizeLine/\Q .non (upd H a (.lst (xs++[y]))):=propext ⟨by rintro ⟨_,xs,_,e1,e2,h⟩;cases e1;cases e2;exact ⟨xs,h⟩,by rintro ⟨xs,h⟩;exact zAN _ xs _ rfl rfl h⟩
theorem IQ:I0 (.ref a) [] H Q=∃xs y,H a=some (.lst xs)/\xs[xs.length-1]?=some y/\Q y (upd H a (.lst xs.dropLast)):=propext ⟨by rintro ⟨_,xs,y,e1,_,h⟩;cases e1;exact zAH xs y h,by rintro ⟨xs,y,h⟩;exact zAN _ xs y rfl rfl h⟩
theorem Fz{a b:Str}{Z:Str->Str->Prop}:(∃i j,V.str a=V.str i/\V.str b=V.str j/\Z i j)=Z a b:=propext ⟨by rintro ⟨_,_,e1,e2,q⟩;cases e1;cases e2;exact q,by intro q;exact zAA a b rfl rfl q⟩
theorem Fx{Z:Addr->List V->Prop}:(∃p ys,[V.ref a]=[V.ref p]/\Z p ys)=∃ys,Z a ys:=propext ⟨by rintro ⟨_,ys,e1,q⟩;cases e1;exact ⟨ys,q⟩,by rintro ⟨ys,q⟩;exact zAE a ys rfl q⟩
theorem FT{c:Bool}{Z:Int->Prop}{Y:Bool->Prop}:((∃i,[V.bl c]=[V.int i]/\Z i)\/∃k,[V.bl c]=[V.bl k]/\Y k)=Y c:=propext ⟨fun h=>(by rcases h with ⟨_,e,q⟩ | ⟨_,e,q⟩<;>cases e<;>exact q),fun q=>Or.inr (zn c rfl q)⟩
theorem FH{t:TGs}{Z:St->Hp->Prop}:Hy K n t (.ref a) σ H Z=∃xs,SqT K H a xs/\xs.length=n/\t xs σ H Z:=propext ⟨by rintro ⟨_,xs,e,h⟩;cases e;exact ⟨xs,h⟩,by rintro ⟨xs,h⟩;exact zAE a xs rfl h⟩
end
end L2
namespace L2
section
variable {prog:Program} {w:World} {A:Around} {R:Result->Shared->Prop} {s:Shared}
end
end L2
namespace L2
inductive Dq (K:W.Frag) (H:Hp):Nat->V->V->Bool->Prop where
 |flat {n:Nat} {x y:V} (fx:c7 x=true) (fy:c7 y=true):Dq K H n x y (eqV x y)
 |same {n:Nat} {a:Addr}:Dq K H n (.ref a) (.ref a) true
 |lists {n:Nat} {a b:Addr} {xs ys:List V} (e:Nat->Bool) (ne:a≠b) (ha:SqL K H a xs) (hb:SqL K H b ys) (hl:xs.length=ys.length)
   (he:∀(j:Nat)x y,xs[j]?=some x->ys[j]?=some y->Dq K H n x y (e j)):Dq K H (n+1) (.ref a) (.ref b) ((List.range xs.length).all e)
 |lens {n:Nat} {a b:Addr} {xs ys:List V} (ne:a≠b) (ha:SqL K H a xs) (hb:SqL K H b ys) (hl:¬xs.length=ys.length):Dq K H (n+1) (.ref a) (.ref b) false
 |tups {n:Nat} {a b:Addr} {xs ys:List V} (e:Nat->Bool) (ne:a≠b) (ha:SqT K H a xs) (hb:SqT K H b ys)
   (he:∀(j:Nat)x y,xs[j]?=some x->ys[j]?=some y->Dq K H n x y (e j)):Dq K H (n+1) (.ref a) (.ref b) ((List.range (min xs.length ys.length)).all e&&xs.length==ys.length)
section
variable {X:Cx} {pins:List (Addr×Obj)} {σ:St} {H:Hp} {s:Shared}
theorem fq{xs:List V}{its:List Value}(r:Vals xs its){j:Nat}(h:j<its.toArray.size):∃x,xs[j]?=some x/\RelV x its.toArray[j]:=by
 have hl:=r.length;have hj:j<xs.length:=by simpa [hl] using h
 obtain ⟨u,hu,ru⟩:=r.get (zq5 hj);have e:its.toArray[j]=u:=by
  have h2:its[j]?=some u:=hu;have h3:j<its.length:=by simpa using h
  rw [zq5 h3] at h2;simpa using h2
 exact zn (xs[j]) (zq5 hj) (by rw [e];exact ru)
theorem Dq.at(I:Inv X pins σ H s){n:Nat}{x y:V}{b:Bool}(d:Dq X.K H n x y b):∀{A:Around} {v u:Value},RelV x v->RelV y u->A.units+n<cLine->SeqAt.EqAt A s v u b:=by
 induction d with
 |flat fx fy=>intro A v u rv ru _;exact xP rv ru fx fy
 |same=>intro A v u rv ru _;cases rv;cases ru;exact SeqAt.EqAt.same _
 | @lists n a b xs ys e ne ha hb hl he ih=>
  intro A v u rv ru hu
  cases rv;cases ru
  obtain ⟨its,r,p,_⟩:=I.list ha;obtain ⟨its2,r2,p2,_⟩:=I.list hb;have e1:=r.length;have e2:=r2.length;have z:=SeqAt.RcAt.lists (A:=A) (e:=e) p.isList p2.isList (by simp;omega) Jlk fun j h1 h2=>by obtain ⟨x,hx,rx⟩:=fq r h1;obtain ⟨y,hy,ry⟩:=fq r2 h2;exact ih j x y hx hy rx ry (by show A.units+1+n<cLine;omega)
  have e3:its.toArray.size=xs.length:=by simp [e1]
  rw [e3] at z;exact SeqAt.EqAt.of_refs ne z
 | @lens n a b xs ys ne ha hb hl=>
  intro A v u rv ru hu
  cases rv;cases ru
  obtain ⟨its,r,p,_⟩:=I.list ha;obtain ⟨its2,r2,p2,_⟩:=I.list hb;have e1:=r.length;have e2:=r2.length;exact SeqAt.EqAt.of_refs ne (SeqAt.RcAt.lists_lengths (A:=A) p.isList p2.isList (by simp;omega) Jlk)
 | @tups n a b xs ys e ne ha hb he ih=>
  intro A v u rv ru hu
  cases rv;cases ru
  obtain ⟨its,r,p,_⟩:=I.tuple ha;obtain ⟨its2,r2,p2,_⟩:=I.tuple hb;have e1:=r.length;have e2:=r2.length;have z:=SeqAt.RcAt.tuples (A:=A) (e:=e) (show s.heap.IsTuple a its.toArray from p) (show s.heap.IsTuple b its2.toArray from p2) Jlk fun j h1 h2=>by obtain ⟨x,hx,rx⟩:=fq r h1;obtain ⟨y,hy,ry⟩:=fq r2 h2;exact ih j x y hx hy rx ry (by show A.units+1+n<cLine;omega)
  have e3:its.toArray.size=xs.length:=by simp [e1]
  have e4:its2.toArray.size=ys.length:=by simp [e2]
  rw [e3,e4] at z;exact SeqAt.EqAt.of_refs ne z
end
inductive Rq (K:W.Frag) (H:Hp) (n:Nat):V->V->Bool->Prop where
 |lists {a b:Addr} {xs ys:List V} (e:Nat->Bool) (ha:SqL K H a xs) (hb:SqL K H b ys) (hl:xs.length=ys.length)
   (he:∀(j:Nat)x y,xs[j]?=some x->ys[j]?=some y->Dq K H n x y (e j)):Rq K H n (.ref a) (.ref b) ((List.range xs.length).all e)
 |lens {a b:Addr} {xs ys:List V} (ha:SqL K H a xs) (hb:SqL K H b ys) (hl:¬xs.length=ys.length):Rq K H n (.ref a) (.ref b) false
 |tups {a b:Addr} {xs ys:List V} (e:Nat->Bool) (ha:SqT K H a xs) (hb:SqT K H b ys)
   (he:∀(j:Nat)x y,xs[j]?=some x->ys[j]?=some y->Dq K H n x y (e j)):Rq K H n (.ref a) (.ref b) ((List.range (min xs.length ys.length)).all e&&xs.length==ys.length)
def JA(K:W.Frag)(n:Nat):R2:=fun x y H Q=>∃b,Rq K H n x y b/\Q (.bl b) H
def JB(K:W.Frag)(n:Nat):R2:=fun x y H Q=>∃b,Rq K H n x y b/\Q (.bl (! b)) H
section
variable {X:Cx}
theorem mO{n:Nat}(hu:X.A.units+(n+1)<cLine):OpR X (compareOp .Eq) (JA X.K n):=by
 intro pins s σ H x y v u Q I rx ry h;obtain ⟨b,d,q⟩:=h
 cases d with
 | @lists a c xs ys e ha hb hl he=>
  cases rx;cases ry
  obtain ⟨its,r,p,_⟩:=I.list ha;obtain ⟨its2,r2,p2,_⟩:=I.list hb;have e1:=r.length;have e2:=r2.length;have e3:its.toArray.size=xs.length:=by simp [e1]
  refine SeqAt.eq_listAt (e:=e) p.isList p2.isList (by simp;omega) Jlk (fun j h1 h2=>?_) (zAA (.bl _) H I rfl (by rw [e3];exact q));obtain ⟨x,hx,rx⟩:=fq r h1;obtain ⟨y,hy,ry⟩:=fq r2 h2;exact (he j x y hx hy).at I rx ry (by show X.A.units+1+n<cLine;omega)
 | @lens a c xs ys ha hb hl=>
  cases rx;cases ry
  obtain ⟨its,r,p,_⟩:=I.list ha;obtain ⟨its2,r2,p2,_⟩:=I.list hb;have e1:=r.length;have e2:=r2.length;exact SeqAt.eq_list_lengthsAt p.isList p2.isList (by simp;omega) Jlk (zAA (.bl _) H I rfl q)
 | @tups a c xs ys e ha hb he=>
  cases rx;cases ry
  obtain ⟨its,r,p,_⟩:=I.tuple ha;obtain ⟨its2,r2,p2,_⟩:=I.tuple hb;have e1:=r.length;have e2:=r2.length;have e3:its.toArray.size=xs.length:=by simp [e1]
  have e4:its2.toArray.size=ys.length:=by simp [e2]
  refine SeqAt.eq_tupleAt (e:=e) (show s.heap.IsTuple a its.toArray from p) (show s.heap.IsTuple c its2.toArray from p2) Jlk (fun j h1 h2=>?_) (zAA (.bl _) H I rfl (by rw [e3,e4];exact q));obtain ⟨x,hx,rx⟩:=fq r h1;obtain ⟨y,hy,ry⟩:=fq r2 h2;exact (he j x y hx hy).at I rx ry (by show X.A.units+1+n<cLine;omega)
theorem mP{n:Nat}(hu:X.A.units+(n+1)<cLine):OpR X (compareOp .NotEq) (JB X.K n):=by
 intro pins s σ H x y v u Q I rx ry h;obtain ⟨b,d,q⟩:=h
 cases d with
 | @lists a c xs ys e ha hb hl he=>
  cases rx;cases ry
  obtain ⟨its,r,p,_⟩:=I.list ha;obtain ⟨its2,r2,p2,_⟩:=I.list hb;have e1:=r.length;have e2:=r2.length;have e3:its.toArray.size=xs.length:=by simp [e1]
  refine SeqAt.RcNeAt.lists (A:=X.A) (e:=e) p.isList p2.isList (by simp;omega) Jlk (fun j h1 h2=>?_) X.prog X.w X.xe _ (zAA (.bl _) H I rfl (by rw [e3];exact q));obtain ⟨x,hx,rx⟩:=fq r h1;obtain ⟨y,hy,ry⟩:=fq r2 h2;exact (he j x y hx hy).at I rx ry (by show X.A.units+1+n<cLine;omega)
 | @lens a c xs ys ha hb hl=>
  cases rx;cases ry
  obtain ⟨its,r,p,_⟩:=I.list ha;obtain ⟨its2,r2,p2,_⟩:=I.list hb;have e1:=r.length;have e2:=r2.length;exact SeqAt.RcNeAt.lists_lengths (A:=X.A) p.isList p2.isList (by simp;omega) Jlk X.prog X.w X.xe _ (zAA (.bl _) H I rfl q)
 | @tups a c xs ys e ha hb he=>
  cases rx;cases ry
  obtain ⟨its,r,p,_⟩:=I.tuple ha;obtain ⟨its2,r2,p2,_⟩:=I.tuple hb;have e1:=r.length;have e2:=r2.length;have e3:its.toArray.size=xs.length:=by simp [e1]
  have e4:its2.toArray.size=ys.length:=by simp [e2]
  refine SeqAt.RcNeAt.tuples (A:=X.A) (e:=e) (show s.heap.IsTuple a its.toArray from p) (show s.heap.IsTuple c its2.toArray from p2) Jlk (fun j h1 h2=>?_) X.prog X.w X.xe _ (zAA (.bl _) H I rfl (by rw [e3,e4];exact q));obtain ⟨x,hx,rx⟩:=fq r h1;obtain ⟨y,hy,ry⟩:=fq r2 h2;exact (he j x y hx hy).at I rx ry (by show X.A.units+1+n<cLine;omega)
end
end L2
namespace L2
def cQ(cells:List (Str×Addr)):List (Str×NameKind)->List (Str×Addr)->List (Str×Addr)
 | [],acc=>acc
 | (n,k)::r,acc=>if k==.free then cQ cells r ((n,(cells.lookup n).getD 0)::acc) else cQ cells r acc
theorem eF{scope:Scope}{env:Env}(h:∀y∈scope.names,y.2=.free->∃c,env.cells.lookup y.1=some c):closureFor scope env=pure (cQ env.cells scope.names []):=by
 have key:∀(names:List (Str×NameKind)) (acc:List (Str×Addr)),(∀y∈names,y.2=.free->∃c,env.cells.lookup y.1=some c)->
   (forIn names acc fun x (r:List (Str×Addr))=>match x with
    | (name,kind)=>if (kind==.free)=true then do let c <- cellOf env name;pure (ForInStep.yield ((name,c)::r)) else pure (ForInStep.yield r))=(pure (cQ env.cells names acc):Sem (List (Str×Addr))):=by
  intro names
  induction names with
  |nil=>intro acc _;rfl
  |cons y r ih=>
   intro acc hy;obtain ⟨n,k⟩:=y;rw [Aw]
   cases hk:(k==NameKind.free) with
   |true=>
    have hk':k=.free:=by simpa using hk
    obtain ⟨c,hc⟩:=hy (n,k) cN hk';have e:cellOf env n=pure c:=by unfold cellOf;rw [show env.cells.lookup n=some c from hc]
    simp only [hk,if_true,e,pure_bind];rw [ih _ fun z hz=>hy z (b7 _ hz)];simp only [cQ,hk,if_true];rw [show env.cells.lookup n=some c from hc];rfl
   |false=>simp only [hk,Bool.false_eq_true,if_false,pure_bind];rw [ih _ fun z hz=>hy z (b7 _ hz)];simp only [cQ,hk,Bool.false_eq_true,if_false]
 refine (show closureFor scope env=((forIn scope.names [] fun x (r:List (Str×Addr))=>match x with
    | (name,kind)=>if (kind==.free)=true then do let c <- cellOf env name;pure (ForInStep.yield ((name,c)::r)) else pure (ForInStep.yield r)) >>= fun cs=>pure cs) from rfl).trans ?_
 rw [key scope.names [] h];rfl
theorem gM{cells:List (Str×Addr)}:∀{names:List (Str×NameKind)} {acc:List (Str×Addr)},(∀y∈names,y.2=.free->∃c,cells.lookup y.1=some c)->(∀y c,acc.lookup y=some c->cells.lookup y=some c)->
  ∀y c,(cQ cells names acc).lookup y=some c->cells.lookup y=some c
 | [],_,_,ha=>ha
 | (n,k)::r,acc,hn,ha=>by
  intro y c;unfold cQ
  split
  ·next hk=>
   refine gM (fun z hz=>hn z (b7 _ hz)) (fun z d hz=>?_) y c;obtain ⟨e,he⟩:=hn (n,k) cN (by simpa using hk);rw [qG] at hz
   split at hz
   ·next hq=>
    have:z=n:=by simpa using hq
    subst this;have he':cells.lookup z=some e:=he;rw [he'] at hz ⊢;exact hz
   ·exact ha z d hz
  ·exact gM (fun z hz=>hn z (b7 _ hz)) ha y c
theorem jy{cells:List (Str×Addr)}{y:Str}:∀{names:List (Str×NameKind)} {acc:List (Str×Addr)},(∃c,acc.lookup y=some c)->∃c,(cQ cells names acc).lookup y=some c
 | [],_,h=>h
 | (n,k)::r,acc,h=>by
  unfold cQ
  split
  ·refine jy ?_;rw [qG]
   split
   ·exact ⟨_,rfl⟩
   ·exact h
  ·exact jy h
theorem dN{cells:List (Str×Addr)}{y:Str}:∀{names:List (Str×NameKind)} {acc:List (Str×Addr)},(y,NameKind.free)∈names->∃c,(cQ cells names acc).lookup y=some c
 | (n,k)::r,acc,h=>by
  unfold cQ;rcases zq11.mp h with e | e
  ·cases e
   rw [zq2 Jlm];exact jy ⟨(cells.lookup y).getD 0,by rw [qG,beq_self_eq_true]⟩
  ·split
   ·exact dN e
   ·exact dN e
structure Bk where
 C:Addr
 fp:List Addr
 s₂:Shared
 H₂:Hp
def Cx.blk(X:Cx)(N':List Str)(scope:Scope)(b:Bk):Cx:=
 {prog:=X.prog,w:=X.w,K:=X.K,mg:=X.mg,base:=X.base,A:=X.A,N:=N',s₀:=b.s₂,H₀:=b.H₂,env:=compEnvC scope (cQ X.env.cells scope.names []) b.C X.env,outer:=X.stack,stack:=X.stack,ex:=b.fp,fn:=fun _=>false,calm:=X.calm,pn:=[],xe:=fun _ _=>False}
def aK(os:List (Option V))(ci:List Nat)(σ:St):St:=none::(os++ci.map fun i=>(σ[i]?).join)
def cw(J:It)(g:TG)(tt:TT)(te:TE)(nt:Nat)(ci:List Nat)(σ:St)(acc:Addr)(Q:Hp->Prop)(H0:Hp):Prop:=∃W:Nat->Nat->List V->Hp->Prop,(∃m,W 0 m [] H0)/\∀i m ys H,W i m ys H->
 (J.stop i H/\Q H)\/(J.go i H/\∃N:List V->Hp->Prop,(∀zs H',N zs H'->∃m',m'<m/\W (i+1) m' zs H')/\∀y H' os,os.length=nt->J.yld i H y H'->g y (aK os ci σ) H' fun σ1 H1=>(∃os',os'.length=nt/\σ1=aK os' ci σ)/\tt σ1 H1 fun b H2=>if b=true then te σ1 H2 fun z H3=>H3 acc=some (.lst ys)/\ys.length<sizeLine/\N (ys++[z]) (upd H3 acc (.lst (ys++[z]))) else N ys H2)
def kx(wi:TI)(g:Bk->TG)(tt:Bk->TT)(te:Bk->TE)(nt:Nat)(ci:List Nat):TE:=fun σ H Q=>wi σ H fun J H1=>∀acc,H1 acc=none->∀bk:Bk,cw J (g bk) (tt bk) (te bk) nt ci σ acc (fun H'=>Q (.ref acc) H') (upd H1 acc (.lst []))
def vv(X:Cx)(ifs:List Expr)(t:TT):Prop:=
 ∀(pins:List (Addr×Obj)) (s:Shared) (σ:St) (H:Hp) (Q:Bool->Hp->Prop),Inv X pins σ H s->t σ H Q->
  wpAny (model X.prog X.w) X.A (forIn ifs true fun c r=>if r=true then do let ok <- isTrue c X.env (eval c X.env);pure (ForInStep.yield ok) else pure (ForInStep.yield r)) (TP X pins σ Q) X.xe s
def kA:TT:=fun _ H Q=>Q true H
structure CompSc(X:Cx)(scope:Scope)(cns:List Str)(ci:List Nat):Prop where
 kind:scope.kind=.function
 cell:∀y∈scope.names,y.2≠.cell
 names:∀y∈scope.names,y.2=.local->scope.names.lookup y.1=some .local
 free:∀y∈scope.names,y.2=.free->X.env.kindOf y.1=some .cell\/X.env.kindOf y.1=some .free
 cap:∀(j:Nat)x,cns[j]?=some x->∃i,ci[j]?=some i/\X.N[i]?=some x/\(x,NameKind.free)∈scope.names
 len:cns.length=ci.length
 noloc:∀y,(y,NameKind.free)∈scope.names->¬(relabel scope X.env).names.lookup y=some .local
theorem dD{env:Env}:∀{names:List (Str×NameKind)} {y:Str} {k:NameKind},(names.map fun (n,k)=>if (k==NameKind.free&&env.scope.kind==.function&&env.kindOf n==some .cell) then (n,NameKind.cell) else (n,k)).lookup y=some k->k=.cell\/k=.free->
  (∀z∈names,z.2≠.cell)->(y,NameKind.free)∈names
 | [],_,_,h,_,_=>by simp at h
 | (n,k0)::r,y,k,h,hk,hc=>by
  rw [cm,qG] at h
  by_cases hf:(k0==NameKind.free&&env.scope.kind==.function&&env.kindOf n==some .cell)=true
  ·simp only [hf,if_true] at h;have k0f:k0=.free:=by have:=hf;simp only [Bool.and_eq_true] at this;simpa using this.1.1
   split at h
   ·next hq=>
    have:y=n:=by simpa using hq
    subst this;subst k0f;exact cN
   ·exact b7 _ (dD h hk fun z hz=>hc z (b7 _ hz))
  ·simp only [hf] at h
   split at h
   ·next hq=>
    have:y=n:=by simpa using hq
    subst this;have e:k0=k:=by simpa using h
    subst e;rcases hk with z | z
    ·exact absurd z (hc _ cN)
    ·subst z;exact cN
   ·exact b7 _ (dD h hk fun z hz=>hc z (b7 _ hz))
section
variable {prog:Program} {w:World} {A:Around} {R:Result->Shared->Prop} {s:Shared}
theorem gP{elt target iter:Expr}{ifs:List Expr}{scope:Scope}{pos:Pos}{it acc:Value}{env:Env}(I:Nat->Shared->Prop)
  (turn:∀n s,I n s->wpAny (model prog w) A (pyNext it) (fun r s₁=>match r with
   |none=>R (.ok .next) s₁
   |some v=>wpAny (model prog w) A (letOwnedTupleGo target it v) (fun _ s₅=>wpAny (model prog w) A (assign target env v) (fun _ s₂=>
     wpAny (model prog w) A (forIn ifs true fun c r=>if r=true then do let ok <- isTrue c env (eval c env);pure (ForInStep.yield ok) else pure (ForInStep.yield r)) (fun ok s₃=>
      if ok=true then wpAny (model prog w) A (eval elt env) (fun x s₄=>wpAny (model prog w) A (call (.builtin "list.append") [acc,x]) (fun _ s₅=>∃m,m<n/\I m s₅) (fun _ _=>False) s₄) (fun _ _=>False) s₃
      else ∃m,m<n/\I m s₃) (fun _ _=>False) s₂) (fun _ _=>False) s₅) (fun _ _=>False) s₁) (fun _ _=>False) s)
  (n:Nat) (h:I n s) :
  codeAny (model prog w) A (.compLoop (.ListComp elt [⟨target,iter,ifs,0⟩] scope pos) 0 it acc env) R s:=by
 refine codeAny_loop rfl I (fun n s hI=>?_) n h;show wpAny _ _ ((compTurn (.ListComp elt [⟨target,iter,ifs,0⟩] scope pos) 0 it acc env).onRaise (fun x=>do noteFrame x env;theTreesLotGoes x)) _ _ s;refine wpAny_noted ?_;rw [compTurn_list];refine zq0 (wpAny_standAt (zq0 (ij (turn n s hI) (fun r s₁ h₁=>?_) fun _ _ h'=>h'.elim)))
 cases r with
 |none=>exact zq3 h₁
 |some v=>
  refine zq0 (ij h₁ (fun _ s₅ h₅=>?_) fun _ _ h'=>h'.elim);refine zq0 (ij h₅ (fun _ s₂ h₂=>zq0 (ij h₂ (fun ok s₃ h₃=>?_) fun _ _ h'=>h'.elim)) fun _ _ h'=>h'.elim)
  cases ok with
  |true=>
   rw [zq2 rfl] at h₃;exact zq0 (zq0 (ij h₃ (fun x s₃ h₃=>zq0 (ij h₃ (fun _ s₄ h₄=>zq3 (zq3 ⟨rfl,h₄⟩)) fun _ _ h'=>h'.elim)) fun _ _ h'=>h'.elim))
  |false=>rw [zq1 bz] at h₃;exact zq0 (zq3 (zq3 ⟨rfl,h₃⟩))
end
theorem kZ{X:Cx}{elt iter tgt:Expr}{ifs:List Expr}{pos:Pos}{scope:Scope}{g:Bk->TG}{tt:Bk->TT}{te:Bk->TE}{tns cns:List Str}{ci:List Nat}{RR:Value->Addr->Result->Shared->Prop}{E:Value->Shared->Prop}
  {pins:List (Addr×Obj)} {σ:St} {H2:Hp} {s2:Shared} {it:Addr} {fp:List Addr} {tn:Nat->Heap->Prop} {J:It} {Q:Addr->Hp->Prop}
  (hc:X.calm=true) (S:CompSc X scope cns ci)
  (hg:∀bk:Bk,PG (X.blk (".0"::(tns++cns)) scope bk) tgt (g bk))
  (ht:∀bk:Bk,vv (X.blk (".0"::(tns++cns)) scope bk) ifs (tt bk))
  (he:∀bk:Bk,PE (X.blk (".0"::(tns++cns)) scope bk) elt (te bk))
  (I2:Inv X pins σ H2 s2) (T:kI X.prog X.w X.K tgt J fp it tn) (st2:tn 0 s2.heap) (f2:∀b∈fp,iY X pins H2 b)
  (hcw:∀acc,H2 acc=none->∀bk:Bk,cw J (g bk) (tt bk) (te bk) tns.length ci σ acc (Q acc) (upd H2 acc (.lst [])))
  (fin:∀D C s5 H4 m,Inv X pins σ H4 s5->s5.heap.Ns C m->iY X pins H4 C->Q D H4->RR (.ref D) C (.ok .next) s5) :
  wpAny (model X.prog X.w) X.A (newList []) (fun acc s₃=>wpAny (model X.prog X.w) X.A (newFunctionEnv scope X.env.globals (cQ X.env.cells scope.names []) [] X.env.qual none .none (some X.env)) (fun cenv s₄=>codeAny (model X.prog X.w) X.A (.compStart (.ListComp elt [⟨tgt,iter,ifs,0⟩] scope pos) 0 (.ref it) acc {cenv with scope:=relabel scope X.env}) (RR acc cenv.locals) s₄) E s₃) E s2:=by
 have hfc:∀y∈scope.names,y.2=.free->∃c,X.env.cells.lookup y.1=some c:=fun y hy hk=>I2.ok.has _ (S.free y hy hk);have hsub:∀y c,(cQ X.env.cells scope.names []).lookup y=some c->X.env.cells.lookup y=some c:=gM hfc (fun y c e=>by simp at e);refine wpAny_newObj_type (wpAny_newFunctionEnv S.cell (by intro y hy;simp at hy) (fun h₁ hns₁ hsb₁=>?_) S.kind);dsimp only at hns₁ hsb₁ ⊢;generalize hH2:s2.heap.push {cls:=.type "list",dict:=none,data:=.seq ([]:List Value).toArray}=G2 at hns₁ hsb₁ ⊢;have hCz:G2.objs.size=s2.heap.objs.size+1:=by rw [<- hH2,iI]
 have hDC:s2.heap.objs.size≠G2.objs.size:=by rw [hCz];exact cf (x8 _)
 have below:∀b,b<s2.heap.objs.size->b≠G2.objs.size:=fun b hb=>by omega
 have old:∀b o,s2.heap.get? b=some o->h₁.get? b=some o:=fun b o e=>hsb₁.extBut b o (below b (bH e)) (bO _ (hH2 ▸ bO _ e));have hacc:h₁.get? s2.heap.objs.size=some {cls:=.type "list",dict:=none,data:=.seq ([]:List Value).toArray}:=hsb₁.extBut _ _ hDC (bO _ (hH2 ▸ cF _ rfl));have hnD:H2 s2.heap.objs.size=none:=I2.hok.fresh (zq6 _);have hnC:H2 G2.objs.size=none:=I2.hok.fresh Jlk;obtain ⟨W,⟨m0,w0⟩,turn⟩:=hcw s2.heap.objs.size hnD ⟨G2.objs.size,fp,s2,H2⟩;have nlt:∀{b:Addr} {o:Obj},s2.heap.get? b=some o->b≠s2.heap.objs.size:=fun q=>cf (bH q);have fpl:∀b∈fp,b<s2.heap.objs.size:=fun b hb=>by obtain ⟨o,e,_⟩:=T.obj _ _ st2 b hb;exact bH e
 have clt:∀y c,(cQ X.env.cells scope.names []).lookup y=some c->c<s2.heap.objs.size:=fun y c e=>by obtain ⟨v,q⟩:=I2.cell y c (hsub y c e);exact q.lt
 have hasC:∀y,((relabel scope X.env).names.lookup y=some .cell\/(relabel scope X.env).names.lookup y=some .free)->∃c,(cQ X.env.cells scope.names []).lookup y=some c:=fun y hk=>by
  rcases hk with z | z
  ·exact dN (dD z (.inl rfl) S.cell)
  ·exact dN (dD z (.inr rfl) S.cell)
 have ok:(X.blk (".0"::(tns++cns)) scope ⟨G2.objs.size,fp,s2,H2⟩).Ok:={
  mod:=I2.ok.mod
  kind:=S.kind
  glob:=I2.ok.glob
  blt:=I2.ok.blt
  above:=by show s2.heap.objs.size<=G2.objs.size;omega
  inj:=fun y z c e1 e2=>I2.ok.inj y z c (hsub y c e1) (hsub z c e2)
  has:=fun y hk=>hasC y hk
  cab:=fun y c e=>by
   have e':(false=true):=e
   cases e'
  hd:=I2.ok.hd
  frames:=I2.ok.frames
  stk:=.inl rfl
  exf:=fun b hb=>⟨below b (fpl b hb),fun y c e=>(f2 b hb).2.2.2.2.1 y c (hsub y c e)⟩
  bs:=I2.bs
  bsz:=dX I2.ok.bsz I2.sz
  noex:=fun b o e hb=>by
   rcases (f2 b hb).2.2.2.1 with z | z
   ·exact I2.ok.noex b o e z
   ·exact absurd (fh (bH e) (dX I2.ok.bsz z)) (qD _)
  exfs:=fun b hb hf=>by
   rcases zq11.mp (I2.stkSub b hf) with z | z
   ·exact (f2 b hb).2.1 z
   ·exact (f2 b hb).2.2.1 z
  funs:=I2.stack
  frf:=I2.stkFree}
 have hokD:HOk X.prog X.w (upd H2 s2.heap.objs.size (.lst [])) h₁:=I2.hok.laid old (zq6 _) ⟨bT _,zAE ([]) 0 .nil hacc⟩;have clD:∀y c,(cQ X.env.cells scope.names []).lookup y=some c->c≠s2.heap.objs.size:=fun y c e=>cf (clt y c e);have I3:Inv (X.blk (".0"::(tns++cns)) scope ⟨G2.objs.size,fp,s2,H2⟩) [] (aK (List.replicate tns.length none) ci σ) (upd H2 s2.heap.objs.size (.lst [])) {s2 with heap:=h₁,toks:=s2.toks+([]:List (Str×Value)).length}:={
  ok:=ok
  os:=rfl
  bare:=I2.bare
  base:=⟨fun b o e n _ _=>old b o e,fun b o e n _ _=>⟨o.slots,old b o e⟩,fun b o e n _=>by rw [ao (nlt e)];exact n,fun b o e _=>⟨o,old b o e⟩,
   fun b ys e=>by rw [ao (am e hnD)];exact e,fun b o u e=>by rw [ao (am e hnD)];exact e,fun b ps e=>⟨#[],by rw [ao (am e hnD),Array.append_empty];exact e⟩⟩
  loc:=⟨_,hns₁,fun i y v e1 e2 e3=>by
   have e1':((".0":Str)::(tns++cns))[i]?=some y:=e1;unfold aK at e2
   cases i with
   |zero=>simp at e2
   |succ i=>
    rw [Ax] at e1' e2
    by_cases hi:i<tns.length
    ·rw [gH (by simpa using hi),AX,zq2 hi] at e2
     cases e2
    ·rw [gG Jlk] at e1';rw [gG (by simp;omega),vd] at e2;obtain ⟨q,hq,hN,hm⟩:=S.cap _ _ e1';rw [bq,hq] at e2;have e2':(σ[q]?).join=some v:=by simpa using e2
     have e4:σ[q]?=some (some v):=by
      cases z:σ[q]? with
      |none=>rw [z] at e2';cases e2'
      |some o=>rw [z] at e2';rw [show o=some v from e2']
     obtain ⟨m,hns,hl⟩:=I2.loc;have hvis:Vis X.env.scope y:=by
      rcases S.free (y,.free) hm rfl with z | z
      ·exact .inr (.inl z)
      ·exact .inr (.inr z)
     obtain ⟨u,ru,lk⟩:=hl q y v hN e4 hvis;refine zn u ru (.inr ?_);have hkk:X.env.kindOf y=some .cell\/X.env.kindOf y=some .free:=S.free (y,.free) hm rfl;rcases lk with ⟨k1,_⟩ | ⟨_,c,hc1,hc2⟩
     ·rcases hkk with z | z<;>(rw [k1] at z;cases z)
     ·obtain ⟨c',hc'⟩:=dN (cells:=X.env.cells) (acc:=[]) hm;have ecc:c'=c:=by have:=hsub y c' hc';rw [hc1] at this;cases this;rfl
      subst ecc;have e3':Vis (relabel scope X.env) y:=e3;refine ⟨?_,zn c' hc' ?_⟩
      ·rcases e3' with z | z | z
       ·exfalso;exact S.noloc y hm z
       ·exact .inl z
       ·exact .inr z
      ·exact hc2.keeps old⟩
  cell:=fun y c e=>by obtain ⟨v,q⟩:=I2.cell y c (hsub y c e);exact ⟨v,q.keeps old⟩
  free:=by show upd H2 s2.heap.objs.size (.lst []) G2.objs.size=none;rw [ao (Ne.symm hDC)];exact hnC
  freeC:=fun y c e=>by rw [ao (clD y c e)];exact I2.freeC y c (hsub y c e)
  pin:=fun p hp=>by have hp':p∈([]:List (Addr×Obj))++[]:=hp;simp at hp'
  hok:=hokD
  len:=by show (aK _ ci σ).length=((".0":Str)::(tns++cns)).length;unfold aK;simp [S.len]}
 have st3:tn 0 h₁:=T.keep _ _ _ st2 fun b _ o e=>old b o e;have fr3:∀b∈fp,upd H2 s2.heap.objs.size (.lst []) b=none:=fun b hb=>by rw [ao (cf (fpl b hb))];exact (f2 b hb).1
 have stat:∀{H':Hp},(∀b∈fp,H' b=none)->∀b∈fp,iY (X.blk (".0"::(tns++cns)) scope ⟨G2.objs.size,fp,s2,H2⟩) [] H' b:=fun hn b hb=>zAV (hn b hb) (below b (fpl b hb)) (ok.exfs b hb) (.inl hb) (fun y c e=>(f2 b hb).2.2.2.2.1 y c (hsub y c e)) (fun p hp=>by have hp':p∈([]:List (Addr×Obj))++[]:=hp;simp at hp')
 have loop:∀s₃:Shared,s₃={s2 with heap:=h₁,toks:=s2.toks+([]:List (Str×Value)).length}->
   codeAny (model X.prog X.w) X.A (.compLoop (.ListComp elt [⟨tgt,iter,ifs,0⟩] scope pos) 0 (.ref it) (.ref s2.heap.objs.size) (compEnvC scope (cQ X.env.cells scope.names []) G2.objs.size X.env))
    (RR (.ref s2.heap.objs.size) G2.objs.size) s₃:=by
  rintro s₃ rfl;refine gP (fun n s'=>∃(i:Nat)(os:List (Option V)) (ys:List V) (H':Hp),os.length=tns.length/\Inv (X.blk (".0"::(tns++cns)) scope ⟨G2.objs.size,fp,s2,H2⟩) [] (aK os ci σ) H' s'/\tn i s'.heap/\(∀b∈fp,H' b=none)/\W i n ys H') ?_ m0 (zAM 0 _ ([]) _ Jll I3 st3 fr3 w0);rintro n s4 ⟨i,os,ys,H4,hos,I4,st4,fr4,w4⟩;rcases turn i n ys H4 w4 with ⟨stop,q⟩ | ⟨go,N,hN,step⟩
  ·refine thn (T.done (X.blk (".0"::(tns++cns)) scope ⟨G2.objs.size,fp,s2,H2⟩) rfl rfl rfl hc i [] s4 _ H4 (fun _ _=>False) I4 (stat fr4) st4 stop) fun r s5 ⟨hr,I5⟩=>?_;subst hr;obtain ⟨m,hm,_⟩:=I5.loc;have fC:H4 G2.objs.size=none:=I5.free;have ub:Un (frs X.stack) fp H2 H4 s2.heap s5.heap:=I5.base;have IX:Inv X pins σ H4 s5:=I2.call' (s':=s5) (show s5.os=s2.os from I5.os) ub I5.hok I5.bare fun b hb=>zAF (f2 b hb).2.2.2.1 (f2 b hb).2.1 (f2 b hb).2.2.2.2.1 (f2 b hb).2.2.2.2.2
   exact fin _ _ s5 H4 m IX hm (I2.fpOk Jlk fC) q
  ·refine thn (T.item (X.blk (".0"::(tns++cns)) scope ⟨G2.objs.size,fp,s2,H2⟩) rfl rfl rfl hc i [] s4 _ H4 (fun _ _=>False) I4 (stat fr4) st4 go) fun r s5 ⟨u,hr,h5⟩=>?_;subst hr;refine thn h5 fun _ s6 hhx=>?_;obtain ⟨y,H6,I6,r6,y6,st6,fr6⟩:=hhx;have I6':=I6.pinned (stat fr6) (T.obj _ _ st6);refine thn (hg _ _ s6 _ H6 y u _ I6' r6 (step y H6 os hos y6)) fun _ s7 ⟨σ7,H7,I7,⟨os',hos',e7⟩,q7⟩=>?_;subst e7;have back:∀{H9:Hp} {s9:Shared},Inv (X.blk (".0"::(tns++cns)) scope ⟨G2.objs.size,fp,s2,H2⟩) ([]++gC fp s6.heap) (aK os' ci σ) H9 s9->tn (i+1) s9.heap/\∀b∈fp,H9 b=none:=fun {H9 s9} I9=>⟨T.keep _ _ _ st6 fun b hb ob e=>(I9.pin (b,ob) (cW _ (cW _ (cI hb e)))).1,fun b hb=>by obtain ⟨ob,e,d⟩:=T.obj _ _ st6 b hb;exact (I9.pin (b,ob) (cW _ (cW _ (cI hb e)))).2.1⟩
   refine thn (ht _ _ s7 _ H7 _ I7 q7) fun b s8 hhx=>?_;obtain ⟨H8,I8,q8⟩:=hhx
   cases b with
   |false=>
    rw [zq1 bz] at q8 ⊢;obtain ⟨m',hm',w8⟩:=hN _ _ q8;exact zn m' hm' (zAM (i+1) os' ys _ hos' I8.unpinned (back I8).1 (back I8).2 w8)
   |true=>rw [zq2 rfl] at q8 ⊢;refine thn (he _ _ s8 _ H8 _ I8 q8) fun zv s8 hhx=>?_;obtain ⟨z,H8,I8,rz,ha8,hl8,n8⟩:=hhx;obtain ⟨m',hm',w8⟩:=hN _ _ n8;refine thn (aX (X:=X.blk (".0"::(tns++cns)) scope ⟨G2.objs.size,fp,s2,H2⟩) _ s8 _ H8 (.ref s2.heap.objs.size) [z] (.ref s2.heap.objs.size) [zv] (fun _ H9=>H9=upd H8 s2.heap.objs.size (.lst (ys++[z]))) I8 rfl (.cons rz .nil) (zAI _ ys z rfl rfl ha8 hl8 rfl)) fun _ s9 hhx=>?_;obtain ⟨_,H9,I9,_,e9⟩:=hhx;subst e9;exact zn m' hm' (zAM (i+1) os' (ys++[z]) _ hos' I9.unpinned (back I9).1 (back I9).2 w8)
 exact codeAny_compStart_list (loop _ rfl) (T.self _ 0 _ _ _ st3 (loop _ rfl))
theorem yK{X:Cx}{elt iter tgt:Expr}{ifs:List Expr}{pos:Pos}{scope:Scope}{wi:TI}{g:Bk->TG}{tt:Bk->TT}{te:Bk->TE}{tns cns:List Str}{ci:List Nat}(hc:X.calm=true)(S:CompSc X scope cns ci)(hi:PI X tgt iter wi)
  (hg:∀bk:Bk,PG (X.blk (".0"::(tns++cns)) scope bk) tgt (g bk))
  (ht:∀bk:Bk,vv (X.blk (".0"::(tns++cns)) scope bk) ifs (tt bk))
  (he:∀bk:Bk,PE (X.blk (".0"::(tns++cns)) scope bk) elt (te bk))
  (hs:∀v,foldedSetIterable iter X.env v=pure v:=by intro _;rfl) :
  PE X (.ListComp elt [⟨tgt,iter,ifs,0⟩] scope pos) (kx wi g tt te tns.length ci):=by
 intro pins s σ H Q I h;have hfc:∀y∈scope.names,y.2=.free->∃c,X.env.cells.lookup y.1=some c:=fun y hy hk=>I.ok.has _ (S.free y hy hk);rw [eval_ListComp];refine wpAny_comprehension_free (use:=none) rfl hs (eF hfc) S.kind S.names (thn (hi pins s σ H _ I h) fun v s1 h1=>thn h1 fun itv s2 h2=>?_);obtain ⟨it,fp,tn,J,H2,rfl,I2,T,st2,f2,hcw⟩:=h2;refine kZ (RR:=fun acc C=>compPost (model X.prog X.w) X.A X.xe none (EP X pins σ Q) acc C) hc S hg ht he I2 T st2 f2 hcw fun D C s5 H4 m I5 hm fo q=>?_;refine zn m hm fun h' hs'=>zAA (.ref D) H4 ?_ rfl q;exact I5.turned (t':=s5.toks) (it:=C) (fun b o hb e=>(hs'.2 b hb).trans e) fo.1 fo.2.1 fo.2.2.2.1 fo.2.2.2.2.1 fo.2.2.2.2.2
def kd(i:Nat)(wi:TI)(g:Bk->TG)(tt:Bk->TT)(te:Bk->TE)(nt:Nat)(ci:List Nat):TS:=fun D σ H=>wi σ H fun J H1=>∀acc,H1 acc=none->∀bk:Bk,cw J (g bk) (tt bk) (te bk) nt ci σ acc (fun H'=>D.nx (σ.set i (some (.ref acc))) H') (upd H1 acc (.lst []))
theorem rQ{X:Cx}{i:Nat}{x:Str}{px pos':Pos}{elt iter tgt:Expr}{ifs:List Expr}{pos:Pos}{scope:Scope}{wi:TI}{g:Bk->TG}{tt:Bk->TT}{te:Bk->TE}{tns cns:List Str}{ci:List Nat}
  (hN:X.N.Nodup) (hx:X.N[i]?=some x) (hl:Loc X.env.scope x) (hf:X.fn x=true) (hsw:swapsWith (.ListComp elt [⟨tgt,iter,ifs,0⟩] scope pos) (some (.Name x px)) pos'.line X.env=pure true)
  (hc:X.calm=true) (S:CompSc X scope cns ci) (hi:PI X tgt iter wi)
  (hg:∀bk:Bk,PG (X.blk (".0"::(tns++cns)) scope bk) tgt (g bk))
  (ht:∀bk:Bk,vv (X.blk (".0"::(tns++cns)) scope bk) ifs (tt bk))
  (he:∀bk:Bk,PE (X.blk (".0"::(tns++cns)) scope bk) elt (te bk))
  (hs:∀v,foldedSetIterable iter X.env v=pure v:=by intro _;rfl) :
  PS X (.Assign [.Name x px] (.ListComp elt [⟨tgt,iter,ifs,0⟩] scope pos) pos') (kd i wi g tt te tns.length ci):=by
 intro pins s σ H D I h;have hfc:∀y∈scope.names,y.2=.free->∃c,X.env.cells.lookup y.1=some c:=fun y hy hk=>I.ok.has _ (S.free y hy hk);rw [exec_Assign_Name_used _ _ _ _ hsw];refine zq0 (wpAny_standAt (zq0 ?_));show wpAny _ _ (do let _ <- comprehension (.ListComp elt [⟨tgt,iter,ifs,0⟩] scope pos) scope X.env _ (newList []) false (eval iter X.env) (some (assign (.Name x px) X.env))) _ _ s;refine zq0 (ij (wpAny_comprehension_free (use:=some (assign (.Name x px) X.env)) (Q:=fun _ s'=>SP X pins D .next s') rfl hs (eF hfc) S.kind S.names
  (thn (hi pins s σ H _ I h) fun v s1 h1=>thn h1 fun itv s2 h2=>?_)) (fun _ s' hq=>zq3 (zq3 hq)) fun _ _ e=>e)
 obtain ⟨it,fp,tn,J,H2,rfl,I2,T,st2,f2,hcw⟩:=h2;refine kZ (RR:=fun acc C=>compPost (model X.prog X.w) X.A X.xe (some (assign (.Name x px) X.env)) (fun _ s'=>SP X pins D .next s') acc C) hc S hg ht he I2 T st2 f2 hcw fun D' C s5 H4 m I5 hm fo q=>?_;obtain ⟨o,es,ep,ho,hd,hr⟩:=id hm;have IP:Inv X (pins++gC [C] s5.heap) σ H4 s5:=I5.pinned (fp:=[C]) (fun b hb=>by rw [zq9.mp hb];exact fo) fun b hb=>by rw [zq9.mp hb];exact zn o ho (fun v z=>by rw [hd] at z;cases z)
 show wpAny _ _ (assign (.Name x px) X.env (.ref D')) _ _ s5;refine thn (ui (X:=X) (i:=i) hN hx hl (.inl hf) _ s5 σ H4 (.ref D') (.ref D') (fun σ' H'=>σ'=σ.set i (some (.ref D'))/\H'=H4) IP rfl ⟨rfl,rfl⟩) fun _ s6 hhx=>?_;obtain ⟨σ6,H6,I6,e1,e2⟩:=hhx;subst e1 e2;have hC6:s6.heap.get? C=some o:=(I6.pin (C,o) (cW _ (cW _ (cI (zq9.mpr rfl) ho)))).1;refine zn m (zAN o es ep hC6 hd hr) fun h' hs'=>zAE _ _ ?_ q;exact I6.unpinned.turned (t':=s6.toks) (it:=C) (fun b o hb e=>(hs'.2 b hb).trans e) fo.1 fo.2.1 fo.2.2.2.1 fo.2.2.2.2.1 fo.2.2.2.2.2
def wI(scope osc:Scope):List (Str×NameKind):=scope.names.map fun (n,k)=>if (k==NameKind.free&&osc.kind==.function&&osc.names.lookup n==some .cell) then (n,NameKind.cell) else (n,k)
def jx(N:List Str)(names:List (Str×NameKind)):List Str->List Nat->Bool
 | [],[]=>true
 |x::xs,i::is=>N[i]?==some x&&names.any (fun y=>y.1==x&&y.2==.free)&&jx N names xs is
 |_,_=>false
def Ho(osc:Scope)(N:List Str)(scope:Scope)(cns:List Str)(ci:List Nat):Bool:=
 scope.kind==.function&&scope.names.all (fun y=>y.2 != .cell)&&scope.names.all (fun y=>y.2 != .local || scope.names.lookup y.1==some .local) &&
 scope.names.all (fun y=>y.2 != .free || (osc.names.lookup y.1==some .cell || osc.names.lookup y.1==some .free))&&jx N scope.names cns ci &&
 scope.names.all (fun y=>y.2 != .free || (wI scope osc).lookup y.1 != some .local)
theorem il{N:List Str}{names:List (Str×NameKind)}:∀{cns:List Str} {ci:List Nat},jx N names cns ci=true->cns.length=ci.length/\∀(j:Nat)x,cns[j]?=some x->∃i,ci[j]?=some i/\N[i]?=some x/\(x,NameKind.free)∈names
 | [],[],_=>⟨rfl,fun j x e=>by simp at e⟩
 | [],_::_,h=>by simp [jx] at h
 |_::_,[],h=>by simp [jx] at h
 |x::xs,i::is,h=>by
  unfold jx at h;rw [ee,ee] at h;obtain ⟨⟨h1,h2⟩,h3⟩:=h;obtain ⟨l,r⟩:=il h3;refine ⟨by simp [l],fun j y e=>?_⟩
  cases j with
  |zero=>
   have e':x=y:=by simpa using e
   subst e';refine zAC i Jll (by simpa using h1) ?_;obtain ⟨z,hz,hq⟩:=zq116.mp h2;rw [ee] at hq;obtain ⟨a,b⟩:=z;have e1:a=x:=by simpa using hq.1
   have e2:b=.free:=by simpa using hq.2
   subst e1 e2;exact hz
  |succ j=>obtain ⟨k,hk⟩:=r j y (by simpa using e);exact zn k (by simpa using hk.1) hk.2
theorem CompSc.of{X:Cx}{scope:Scope}{cns:List Str}{ci:List Nat}(h:Ho X.env.scope X.N scope cns ci=true):CompSc X scope cns ci:=by
 unfold Ho at h;rw [ee,ee,ee,ee,ee] at h;obtain ⟨⟨⟨⟨⟨h1,h2⟩,h3⟩,h4⟩,h5⟩,h6⟩:=h;obtain ⟨l,r⟩:=il h5;refine ⟨by simpa using h1,fun y hy=>?_,fun y hy hk=>?_,fun y hy hk=>?_,r,l,fun y hy z=>?_⟩
 ·simpa using zq48.mp h2 y hy
 ·have:=zq48.mp h3 y hy;rw [ny] at this;rcases this with q | q
  ·exact absurd hk (by simpa using q)
  ·simpa using q
 ·have:=zq48.mp h4 y hy;rw [ny,ny] at this;rcases this with q | q | q
  ·exact absurd hk (by simpa using q)
  ·exact .inl (show X.env.scope.names.lookup y.1=_ by simpa using q)
  ·exact .inr (show X.env.scope.names.lookup y.1=_ by simpa using q)
 ·have:=zq48.mp h6 _ hy;rw [ny] at this;rcases this with q | q
  ·simp at q
  ·have z':(wI scope X.env.scope).lookup y=some .local:=z;have q':((wI scope X.env.scope).lookup y != some .local)=true:=q;rw [z'] at q';exact absurd q' Jkm
section
variable {K:W.Frag} {g:TG} {tt:TT} {te:TE} {nt:Nat} {ci:List Nat} {σ:St} {acc:Addr} {Q:Hp->Prop} {H0:Hp}
theorem cP{a:Addr}{xs:List V}(Pv:Nat->List V->Hp->Prop)(h0:Pv 0 [] H0)(hl:∀i ys H,i<=xs.length->Pv i ys H->SqL K H a xs)
  (hs:∀(i:Nat)x ys H os,xs[i]?=some x->os.length=nt->Pv i ys H->g x (aK os ci σ) H fun σ1 H1=>(∃os',os'.length=nt/\σ1=aK os' ci σ)/\tt σ1 H1 fun b H2=>if b=true then te σ1 H2 fun z H3=>H3 acc=some (.lst ys)/\ys.length<sizeLine/\Pv (i+1) (ys++[z]) (upd H3 acc (.lst (ys++[z]))) else Pv (i+1) ys H2)
  (hd:∀ys H,Pv xs.length ys H->Q H):cw (Itl K a) g tt te nt ci σ acc Q H0:=by
 refine zn (fun i m ys H=>m=xs.length-i/\i<=xs.length/\Pv i ys H) (zAC xs.length Jll (bT _) h0) ?_;rintro i m ys H ⟨rfl,hi,p⟩;have q:=hl i ys H hi p
 by_cases hlt:i<xs.length
 ·refine .inr ⟨zAE xs (xs[i]) q (by simp [hlt]),zn (Pv (i+1)) (fun ys' H' p'=>zAG (xs.length-(i+1)) Jlk rfl hlt p') fun y H' os ho yl=>?_⟩;obtain ⟨rfl,yl⟩:=yl;exact hs i y ys H' os (yl xs q) ho p
 ·have e:i=xs.length:=by omega
  subst e;exact .inl ⟨zn xs q (zq6 _),hd ys H p⟩
theorem Et{a:Addr}{xs:List V}(Pv:Nat->List V->Hp->Prop)(h0:Pv 0 [] H0)(hl:∀i ys H,i<=xs.length->Pv i ys H->SqT K H a xs)
  (hs:∀(i:Nat)x ys H os,xs[i]?=some x->os.length=nt->Pv i ys H->g x (aK os ci σ) H fun σ1 H1=>(∃os',os'.length=nt/\σ1=aK os' ci σ)/\tt σ1 H1 fun b H2=>if b=true then te σ1 H2 fun z H3=>H3 acc=some (.lst ys)/\ys.length<sizeLine/\Pv (i+1) (ys++[z]) (upd H3 acc (.lst (ys++[z]))) else Pv (i+1) ys H2)
  (hd:∀ys H,Pv xs.length ys H->Q H):cw (Itt K a) g tt te nt ci σ acc Q H0:=by
 refine zn (fun i m ys H=>m=xs.length-i/\i<=xs.length/\Pv i ys H) (zAC xs.length Jll (bT _) h0) ?_;rintro i m ys H ⟨rfl,hi,p⟩;have q:=hl i ys H hi p
 by_cases hlt:i<xs.length
 ·refine .inr ⟨zAE xs (xs[i]) q (by simp [hlt]),zn (Pv (i+1)) (fun ys' H' p'=>zAG (xs.length-(i+1)) Jlk rfl hlt p') fun y H' os ho yl=>?_⟩;obtain ⟨rfl,yl⟩:=yl;exact hs i y ys H' os (yl xs q) ho p
 ·have e:i=xs.length:=by omega
  subst e;exact .inl ⟨zn xs q (zq6 _),hd ys H p⟩
theorem nW{lo:Int}{n:Nat}(Pv:Nat->List V->Hp->Prop)(h0:Pv 0 [] H0)
  (hs:∀(i:Nat)ys H os,i<n->os.length=nt->Pv i ys H->g (.int (lo+i)) (aK os ci σ) H fun σ1 H1=>(∃os',os'.length=nt/\σ1=aK os' ci σ)/\tt σ1 H1 fun b H2=>if b=true then te σ1 H2 fun z H3=>H3 acc=some (.lst ys)/\ys.length<sizeLine/\Pv (i+1) (ys++[z]) (upd H3 acc (.lst (ys++[z]))) else Pv (i+1) ys H2)
  (hd:∀ys H,Pv n ys H->Q H):cw (Itr lo n) g tt te nt ci σ acc Q H0:=by
 refine zn (fun i m ys H=>m=n-i/\i<=n/\Pv i ys H) (zAC n Jll (bT _) h0) ?_;rintro i m ys H ⟨rfl,hi,p⟩
 by_cases hlt:i<n
 ·refine .inr ⟨hlt,zn (Pv (i+1)) (fun ys' H' p'=>zAG (n-(i+1)) Jlk rfl hlt p') fun y H' os ho yl=>?_⟩;obtain ⟨rfl,rfl⟩:=yl;exact hs i ys H' os hlt ho p
 ·have e:i=n:=by omega
  subst e;exact .inl ⟨zq6 _,hd ys H p⟩
end
end L2
namespace L2
def isiT:List String:=["int","bool","str","list","tuple","dict"]
inductive fw (K:W.Frag) (H:Hp):V->String->Prop where
 |non:fw K H .non "NoneType"
 |bl {b:Bool}:fw K H (.bl b) "bool"
 |int {i:Int}:fw K H (.int i) "int"
 |str {x:Str}:fw K H (.str x) "str"
 |lst {a:Addr} {xs:List V} (h:SqL K H a xs):fw K H (.ref a) "list"
 |tup {a:Addr} {xs:List V} (h:SqT K H a xs):fw K H (.ref a) "tuple"
 |dic {a:Addr} (h:IsD H a):fw K H (.ref a) "dict"
def gA(k T:String):Bool:=k==T || (k=="bool"&&T=="int")
def z9(K:W.Frag):List V->Hp->VK->Prop:=fun xs H Q=>∃x T k,xs=[x,.ty T]/\isiT.contains T=true/\fw K H x k/\Q (.bl (gA k T)) H
section
variable {X:Cx}
theorem eI:dM X (.builtin "isinstance") (z9 X.K):=by
 intro pins s σ H xs us Q I r h;obtain ⟨x,T,k,rfl,hT,hk,q⟩:=h;obtain ⟨u,v,rfl,ru,rv⟩:=Ai r
 cases rv
 have hT':T="int"\/T="bool"\/T="str"\/T="list"\/T="tuple"\/T="dict":=by simpa [isiT] using hT
 have fin:∀{b:Bool},b=gA k T->EP X pins σ Q (.bool b) s:=fun e=>zAA (.bl _) H I rfl (by rw [e];exact q)
 have finT:∀{b:Bool},b=gA k T->EP X pins σ Q (.bool b) {s with toks:=s.toks+1}:=fun e=>zAA (.bl _) H (I.tok _) rfl (by rw [e];exact q)
 cases hk with
 |non=>
  cases ru
  rcases hT' with rfl | rfl | rfl | rfl | rfl | rfl
  ·exact IsiPair.NoneType_int (finT Jkk)
  ·exact IsiPair.NoneType_bool (finT Jkk)
  ·exact IsiPair.NoneType_str (finT Jkk)
  ·exact IsiPair.NoneType_list (finT Jkk)
  ·exact IsiPair.NoneType_tuple (finT Jkk)
  ·exact IsiPair.NoneType_dict (finT Jkk)
 |bl=>
  cases ru
  rcases hT' with rfl | rfl | rfl | rfl | rfl | rfl
  ·exact IsiPair.bool_int (fin Jkk)
  ·exact IsiPair.bool_bool (fin Jkk)
  ·exact IsiPair.bool_str (finT Jkk)
  ·exact IsiPair.bool_list (finT Jkk)
  ·exact IsiPair.bool_tuple (finT Jkk)
  ·exact IsiPair.bool_dict (finT Jkk)
 |int=>
  obtain ⟨t,rfl⟩:=ru;rcases hT' with rfl | rfl | rfl | rfl | rfl | rfl
  ·exact IsiPair.int_int (fin Jkk)
  ·exact IsiPair.int_bool (finT Jkk)
  ·exact IsiPair.int_str (finT Jkk)
  ·exact IsiPair.int_list (finT Jkk)
  ·exact IsiPair.int_tuple (finT Jkk)
  ·exact IsiPair.int_dict (finT Jkk)
 |str=>
  obtain ⟨t,rfl⟩:=ru;rcases hT' with rfl | rfl | rfl | rfl | rfl | rfl
  ·exact IsiPair.str_int (finT Jkk)
  ·exact IsiPair.str_bool (finT Jkk)
  ·exact IsiPair.str_str (fin Jkk)
  ·exact IsiPair.str_list (finT Jkk)
  ·exact IsiPair.str_tuple (finT Jkk)
  ·exact IsiPair.str_dict (finT Jkk)
 |lst hl=>
  cases ru
  obtain ⟨its,_,⟨o,n,e,c,_⟩,_⟩:=I.list hl;rcases hT' with rfl | rfl | rfl | rfl | rfl | rfl
  ·exact IsiPair.list_int e c (finT Jkk)
  ·exact IsiPair.list_bool e c (finT Jkk)
  ·exact IsiPair.list_str e c (finT Jkk)
  ·exact IsiPair.list_list e c (fin Jkk)
  ·exact IsiPair.list_tuple e c (finT Jkk)
  ·exact IsiPair.list_dict e c (finT Jkk)
 |tup hl=>
  cases ru
  obtain ⟨its,_,⟨o,e,c,_⟩,_⟩:=I.tuple hl;rcases hT' with rfl | rfl | rfl | rfl | rfl | rfl
  ·exact IsiPair.tuple_int e c (finT Jkk)
  ·exact IsiPair.tuple_bool e c (finT Jkk)
  ·exact IsiPair.tuple_str e c (finT Jkk)
  ·exact IsiPair.tuple_list e c (finT Jkk)
  ·exact IsiPair.tuple_tuple e c (fin Jkk)
  ·exact IsiPair.tuple_dict e c (finT Jkk)
 |dic hl=>
  cases ru
  obtain ⟨o,e,c⟩:=(EI I hl).1;rcases hT' with rfl | rfl | rfl | rfl | rfl | rfl
  ·exact IsiPair.dict_int e c (finT Jkk)
  ·exact IsiPair.dict_bool e c (finT Jkk)
  ·exact IsiPair.dict_str e c (finT Jkk)
  ·exact IsiPair.dict_list e c (finT Jkk)
  ·exact IsiPair.dict_tuple e c (finT Jkk)
  ·exact IsiPair.dict_dict e c (fin Jkk)
end
section
variable {H:Hp} {Q:VK} {σ:St} {D:cY} {K:W.Frag}
theorem Cf{wi:TI}{g:Bk->TG}{tt:Bk->TT}{te:Bk->TE}{nt:Nat}{ci:List Nat}:kx wi g tt te nt ci σ H Q=wi σ H fun J H1=>∀acc,H1 acc=none->∀bk:Bk,cw J (g bk) (tt bk) (te bk) nt ci σ acc (fun H'=>Q (.ref acc) H') (upd H1 acc (.lst [])):=rfl
theorem wD{i:Nat}{wi:TI}{g:Bk->TG}{tt:Bk->TT}{te:Bk->TE}{nt:Nat}{ci:List Nat}:kd i wi g tt te nt ci D σ H=wi σ H fun J H1=>∀acc,H1 acc=none->∀bk:Bk,cw J (g bk) (tt bk) (te bk) nt ci σ acc (fun H'=>D.nx (σ.set i (some (.ref acc))) H') (upd H1 acc (.lst [])):=rfl
theorem IV{Q:Bool->Hp->Prop}:kA σ H Q=Q true H:=rfl
theorem uq{x:V}{T k:String}(hk:fw K H x k)(hT:isiT.contains T=true)(hf:∀k',fw K H x k'->k'=k):z9 K [x,.ty T] H Q=Q (.bl (gA k T)) H:=
 propext ⟨by rintro ⟨_,_,k',e,_,h2,q⟩;cases e;rw [hf k' h2] at q;exact q,by intro q;exact zAO x T k rfl hT hk q⟩
theorem r_isi_int_str{i:Int}:z9 K [.int i,.ty "str"] H Q=Q (.bl false) H:=(uq (T:="str") .int Jkk (fun k h=>by cases h;rfl)).trans (by rw [show gA "int" "str"=false by decide +kernel])
theorem r_isi_str_str{x:Str}:z9 K [.str x,.ty "str"] H Q=Q (.bl true) H:=(uq (T:="str") .str Jkk (fun k h=>by cases h;rfl)).trans (by rw [show gA "str" "str"=true by decide +kernel])
end
end L2
namespace L2
variable {p:Addr} {x:V}
section
variable {H:Hp} {Q:VK} {σ:St} {D:cY} {K:W.Frag}
theorem IT{a:Addr}{lo hi:Option Int}:Id K (.ref a) lo hi H Q=∃xs,SqT K H a xs/\¬(HT.sIx xs.length 0 lo=0/\HT.sIx xs.length xs.length hi=xs.length)/\∀p,H p=none->Q (.ref p) (upd H p (.tup (g8 xs lo hi))):=propext ⟨by rintro ⟨_,xs,e1,h⟩;cases e1;exact ⟨xs,h⟩,by rintro ⟨xs,h⟩;exact zAE _ xs rfl h⟩
theorem IE:rIn K false x (.ref p) H Q=∃xs,(SqL K H p xs\/SqT K H p xs)/\c7 x=true/\xs.all c7=true/\Q (.bl (inV x xs)) H:=propext ⟨by rintro ⟨_,xs,e1,h⟩;cases e1;exact ⟨xs,h⟩,by rintro ⟨xs,h⟩;exact zAE _ xs rfl h⟩
theorem zj:rIn K true x (.ref p) H Q=∃xs,(SqL K H p xs\/SqT K H p xs)/\c7 x=true/\xs.all c7=true/\Q (.bl (! inV x xs)) H:=propext ⟨by rintro ⟨_,xs,e1,h⟩;cases e1;exact ⟨xs,h⟩,by rintro ⟨xs,h⟩;exact zAE _ xs rfl h⟩
end
theorem Paired.get{α β:Type}{F:α->β->Prop}:∀{l₁:List α} {l₂:List β} {i:Nat} {a:α},Paired F l₁ l₂->l₁[i]?=some a->∃b,l₂[i]?=some b/\F a b
 |_,_,_,_,.nil,e=>by simp at e
 |_,_,0,_,.cons h _,e=>by simp at e;subst e;exact zn _ rfl h
 |_,_,i+1,a,.cons _ t,e=>by obtain ⟨b,h1,h2⟩:=Paired.get (i:=i) (a:=a) t (by simpa using e);exact zn b (by simpa using h1) h2
theorem Paired.getR{α β:Type}{F:α->β->Prop}:∀{l₁:List α} {l₂:List β} {i:Nat} {b:β},Paired F l₁ l₂->l₂[i]?=some b->∃a,l₁[i]?=some a/\F a b
 |_,_,_,_,.nil,e=>by simp at e
 |_,_,0,_,.cons h _,e=>by simp at e;subst e;exact zn _ rfl h
 |_,_,i+1,b,.cons _ t,e=>by obtain ⟨a,h1,h2⟩:=Paired.getR (i:=i) (b:=b) t (by simpa using e);exact zn a (by simpa using h1) h2
theorem Same.updM{H0 H:Hp}{o:HO}(s:Same H0 H)(h:H0 p=none):Same H0 (L2.upd H p o):=fun b u e=>by rw [ao (am e h)];exact s b u e
theorem Same.updN{H0 H:Hp}{o:HO}(s:Same H0 H)(h:H p=none):Same H0 (L2.upd H p o):=s.updM (s.free h)
theorem gT{b:Bool}{A B:Prop}(h1:b=true->A)(h2:b=false->B):if b=true then A else B:=by
 cases b
 ·rw [zq1 bz];exact h2 rfl
 ·rw [zq2 rfl];exact h1 rfl
theorem Ey{CX:CXT}{P:Program}{w:World}{K:W.Frag}{mg:Str->Option Value}{base:Heap}{N:List Str}{qual:Str}{scope:Scope}{f:Addr}{cd:Value}{A:Around}{outer:List Env}{s:Shared}{H:Hp}{E:XK}:(oh CX P w K mg base N qual scope f cd A outer s H E).K=K:=rfl
theorem He{X:Cx}{E:Value->Shared->Prop}:(X.wish E).K=X.K:=rfl
theorem Hn{X:Cx}{N':List Str}{scope:Scope}{b:Bk}:(X.blk N' scope b).K=X.K:=rfl
theorem Fm{o:Option V}{ci:List Nat}{σ:St}:aK [o] ci σ=none::o::ci.map fun i=>(σ[i]?).join:=rfl
theorem Fn{o o':Option V}{ci:List Nat}{σ:St}:aK [o,o'] ci σ=none::o::o'::ci.map fun i=>(σ[i]?).join:=rfl
theorem jS{n k:Nat}{P:Prop}(h:¬HT.sIx n 0 (some (k:Int))=0):¬(HT.sIx n 0 (some (k:Int))=0/\P):=fun z=>h z.1
def jN:V->Bool
 | .str _=>true
 |_=>false
theorem mD{n:Str}:∀{ns:List Str},inV (.str n) (ns.map V.str)=decide (n∈ns)
 | []=>by simp [inV]
 |m::ns=>by
  have ih:=mD (n:=n) (ns:=ns);unfold inV at ih ⊢;rw [cm,qE,ih];have e:eqV (.str m) (.str n)=decide (m=n):=by unfold eqV;rfl
  rw [e]
  by_cases h1:m=n
  ·subst h1;simp
  ·have h2:¬n=m:=fun z=>h1 z.symm;simp [h1,h2]
theorem iq:∀{ns:List Str},(ns.map V.str).all c7=true
 | []=>rfl
 |n::ns=>by rw [cm,AZ,iq];rfl
section
variable {K:W.Frag} {tt:TT} {te:TE} {ci:List Nat} {σ:St} {acc:Addr} {Q:Hp->Prop} {H1:Hp} {a:Addr} {xs:List V}
theorem vK(p:V->Bool)(f:V->V){x:V}{ys:List V}{H:Hp}{os:List (Option V)}{i:Nat}{Pv:Nat->List V->Hp->Prop}(ho:os.length=1)(hi:xs[i]?=some x)
  (hp:∀Q',Q' (p x) H->tt (aK [some x] ci σ) H Q') (hf:∀Q',p x=true->Q' (f x) H->te (aK [some x] ci σ) H Q') (hacc:H acc=some (.lst ys)) (hlen:ys.length<sizeLine)
  (h1:p x=true->Pv (i+1) (ys++[f x]) (upd H acc (.lst (ys++[f x])))) (h2:p x=false->Pv (i+1) ys H) :
  bD 1 x (aK os ci σ) H fun σ1 H1=>(∃os',os'.length=1/\σ1=aK os' ci σ)/\tt σ1 H1 fun b H2=>if b=true then te σ1 H2 fun z H3=>H3 acc=some (.lst ys)/\ys.length<sizeLine/\Pv (i+1) (ys++[z]) (upd H3 acc (.lst (ys++[z]))) else Pv (i+1) ys H2:=by
 have e:(aK os ci σ).set 1 (some x)=aK [some x] ci σ:=by
  match os,ho with
  | [o],_=>rfl
 show (∃os',os'.length=1/\(aK os ci σ).set 1 (some x)=aK os' ci σ)/\tt ((aK os ci σ).set 1 (some x)) H _;rw [e];refine ⟨zn ([some x]) rfl rfl,hp _ ?_⟩
 cases hb:p x with
 |true=>rw [zq2 rfl];exact hf _ hb (zAB hacc hlen (h1 hb))
 |false=>rw [zq1 bz];exact h2 hb
theorem cG{p:V->Bool}{f:V->V}{xs:List V}{i:Nat}(hi:xs[i]?=some x):((xs.take (i+1)).filter p).map f=((xs.take i).filter p).map f++(if p x=true then [f x] else []):=by
 obtain ⟨h,e⟩:=zq7.mp hi;rw [df h,e,vh,cq];congr 1
 cases hb:p x<;>simp [hb]
theorem oA{p:V->Bool}{f:V->V}{xs:List V}{i:Nat}(hi:xs[i]?=some x)(hz:xs.length<=sizeLine):(((xs.take i).filter p).map f).length<sizeLine:=by obtain ⟨h,e⟩:=zq7.mp hi;rw [zq4];have:=qm p (xs.take i);rw [dY] at this;omega
theorem tE{J:It}(p:V->Bool)(f:V->V)(hz:xs.length<=sizeLine)(hacc:H1 acc=none)
 (hJ:∀(Pv:Nat->List V->Hp->Prop),Pv 0 [] (upd H1 acc (.lst []))->(∀i ys H,Pv i ys H->∃ys',H=upd H1 acc (.lst ys'))->
 (∀(i:Nat)x ys H os,xs[i]?=some x->os.length=1->Pv i ys H->bD 1 x (aK os ci σ) H fun σ1 H1=>(∃os',os'.length=1/\σ1=aK os' ci σ)/\tt σ1 H1 fun b H2=>
 if b=true then te σ1 H2 fun z H3=>H3 acc=some (.lst ys)/\ys.length<sizeLine/\Pv (i+1) (ys++[z]) (upd H3 acc (.lst (ys++[z]))) else Pv (i+1) ys H2)->
 (∀ys H,Pv xs.length ys H->Q H)->cw J (bD 1) tt te 1 ci σ acc Q (upd H1 acc (.lst [])))
 (hp:∀x∈xs,∀H Q',Same H1 H->Q' (p x) H->tt (aK [some x] ci σ) H Q') (hf:∀x∈xs,∀H Q',Same H1 H->p x=true->Q' (f x) H->te (aK [some x] ci σ) H Q')
 (q:Q (upd H1 acc (.lst ((xs.filter p).map f)))):cw J (bD 1) tt te 1 ci σ acc Q (upd H1 acc (.lst [])):=by
 refine hJ (fun i ys H=>ys=((xs.take i).filter p).map f/\H=upd H1 acc (.lst ys)) ⟨Jll,rfl⟩ (fun i ys H h=>⟨ys,h.2⟩) ?_ ?_
 ·rintro i x ys H os hi ho ⟨rfl,rfl⟩;have hm:=bg hi;refine vK (xs:=xs) (Pv:=fun i ys H=>ys=((xs.take i).filter p).map f/\H=upd H1 acc (.lst ys)) p f ho hi (fun Q' h=>hp x hm _ _ (Same.upd hacc) h) (fun Q' hb h=>hf x hm _ _ (Same.upd hacc) hb h) ae (oA hi hz) (fun hb=>?_) (fun hb=>?_)
  ·rw [cG hi,zq2 hb];exact ⟨rfl,by rw [CI]⟩
  ·rw [cG hi,zq1 (by rw [hb];exact bz),g9];exact ⟨rfl,rfl⟩
 ·rintro ys H ⟨rfl,rfl⟩;rw [ef];exact q
theorem xF(p:V->Bool)(f:V->V)(hz:xs.length<=sizeLine)(hl:SqL K H1 a xs)(hacc:H1 acc=none)
  (hp:∀x∈xs,∀H Q',Same H1 H->Q' (p x) H->tt (aK [some x] ci σ) H Q') (hf:∀x∈xs,∀H Q',Same H1 H->p x=true->Q' (f x) H->te (aK [some x] ci σ) H Q')
  (q:Q (upd H1 acc (.lst ((xs.filter p).map f)))):cw (Itl K a) (bD 1) tt te 1 ci σ acc Q (upd H1 acc (.lst [])):=
 tE p f hz hacc (fun Pv h0 hH hs hd=>cP Pv h0 (fun i ys H _ h=>by obtain ⟨ys',rfl⟩:=hH i ys H h;exact (Same.upd hacc).seq hl) hs hd) hp hf q
theorem xG(p:V->Bool)(f:V->V)(hz:xs.length<=sizeLine)(hl:SqT K H1 a xs)(hacc:H1 acc=none)
  (hp:∀x∈xs,∀H Q',Same H1 H->Q' (p x) H->tt (aK [some x] ci σ) H Q') (hf:∀x∈xs,∀H Q',Same H1 H->p x=true->Q' (f x) H->te (aK [some x] ci σ) H Q')
  (q:Q (upd H1 acc (.lst ((xs.filter p).map f)))):cw (Itt K a) (bD 1) tt te 1 ci σ acc Q (upd H1 acc (.lst [])):=
 tE p f hz hacc (fun Pv h0 hH hs hd=>Et Pv h0 (fun i ys H _ h=>by obtain ⟨ys',rfl⟩:=hH i ys H h;exact (Same.upd hacc).seqT hl) hs hd) hp hf q
end
end L2
end
namespace FB
open PySem L2
inductive Opd where
 |box (n:Str)
 |word (i:Int)
 deriving DecidableEq
def Opd.v:Opd->V
 | .box n=>.str n
 | .word i=>.int i
def Opd.reads:Opd->List Str
 | .box n=>[n]
 | .word _=>[]
inductive Deed where
 |tell (a:Opd)
 |copy (d:Str) (a:Opd)
 |op (f d:Str) (a b:Opd)
 deriving DecidableEq
def opsL:List Str:=["plus","less","and","or","xor","below","same"]
def Deed.vs:Deed->List V
 | .tell a=>[.str "tell",a.v]
 | .copy d a=>[.str "copy",.str d,a.v]
 | .op f d a b=>[.str f,.str d,a.v,b.v]
def Deed.fine:Deed->Prop
 | .op f _ _ _=>f∈opsL
 |_=>True
def Deed.reads:Deed->List Str
 | .tell a=>a.reads
 | .copy _ a=>a.reads
 | .op _ _ a b=>a.reads++b.reads
def Deed.writes:Deed->List Str
 | .tell _=>[]
 | .copy d _=>[d]
 | .op _ d _ _=>[d]
def Deed.tells:Deed->Bool
 | .tell _=>true
 |_=>false
def oF(one other:Deed):Option Int:=
 if one.tells=true/\other.tells=true then some 1
 else if ∃n∈one.writes,n∈other.reads\/n∈other.writes then some 1
 else if ∃n∈other.writes,n∈one.reads then some 0 else none
def mR:Option Int->V
 |none=>.non
 |some i=>.int i
end FB
section
open PySem PySem.Spec PyProof.Rows
namespace L2
section
variable {X:Cx}
end
end L2
namespace L2
variable {H:Hp} {sc:Scope} {σ:St}
section
variable {X:Cx} {x:Str} {p pos:Pos} {e:Expr} {es:List Expr} {t:TA} {id T:String} {r:List V->Hp->VK->Prop}
theorem qv(i:Nat){x:Str}{pos:Pos}(hv:Vis X.env.scope x)(hN:X.N[i]?=some x:=by rfl)(hd:(x==("__debug__":Str))=false:=by kernel_rfl) (hcd:(x==("__classdict__":Str))=false:=by kernel_rfl):PE X (.Name x pos) (GW i):=Fb hN hv hd hcd
theorem vl{x:Str}(h:sc.names.lookup x=some .local:=by kernel_rfl):Vis sc x:=.inl h
theorem vc{x:Str}(h:sc.names.lookup x=some .cell:=by kernel_rfl):Vis sc x:=.inr (.inl h)
theorem ll{x:Str}(h:sc.names.lookup x=some .local:=by kernel_rfl):Loc sc x:=.inl h
theorem lc{x:Str}(h:sc.names.lookup x=some .cell:=by kernel_rfl):Loc sc x:=.inr h
theorem gl{X:Cx}{x:Str}(h:X.env.scope.names.lookup x=some .globalImplicit:=by kernel_rfl):Gl X x:=h
theorem mJ{x:Str}(h:(x==("__name__":Str))=false:=by kernel_rfl):x≠"__name__":=fun z=>by subst z;exact absurd h Jkk
theorem yX{k:Nat}{f:Addr}{fd:FuncData}{ps:List Str}{sp:Sp}{x:Str}{st:Stmt}{p pos:Pos}{e:Expr}{es:List Expr}{t:TA}(D:bv X.K X.mg x st ps f fd)(G:FnOk X.prog X.w X.K X.mg X.base CX0 k f fd ps sp)(hr:Room k X.A)
  (ha:PA X (e::es) t) (hg:Gl X x) (hdb:(x==("__debug__":Str))=false:=by kernel_rfl) (he:starEach (e::es) X.env=(false,eval e X.env)::starEach es X.env:=by rfl) (hpl:(backTo pos (starEach es X.env)).any (·.1)=false:=by rfl) :
  PE X (.Call (.Name x p) (e::es) [] pos) (q9 sp [] E0 t):=yJ D G hr ha hg hdb he hpl
def qS:Expr->Option V
 | .Constant (.int i) _ _=>some (.int i)
 | .Constant (.str x) _ _=>some (.str x)
 | .Constant (.bool b) _ _=>some (.bl b)
 | .Constant .none _ _=>some .non
 |_=>none
def jb:List Expr->Option (List V)
 | []=>some []
 |e::es=>(qS e).bind fun v=>(jb es).map fun vs=>v::vs
def tVs(vs:List V):TA:=fun _ H Q=>Q vs H
theorem vD{e:Expr}{v:V}(h:qS e=some v):PE X e (tC v)/\∀es,starEach (e::es) X.env=(false,eval e X.env)::starEach es X.env:=by
 unfold qS at h
 split at h
 ·cases h;exact ⟨yM,fun _=>rfl⟩
 ·cases h;exact ⟨yQ,fun _=>rfl⟩
 ·cases h;exact ⟨CY,fun _=>rfl⟩
 ·cases h;exact ⟨yP,fun _=>rfl⟩
 ·cases h
theorem pq:∀{es:List Expr} {vs:List V},jb es=some vs->PA X es (tVs vs)
 | [],_,h=>by cases h;exact yF
 |e::es,vs,h=>by unfold jb at h;obtain ⟨v,h1,h2⟩:=Option.bind_eq_some_iff.mp h;obtain ⟨ws,h3,h4⟩:=zq47.mp h2;subst h4;obtain ⟨p1,p2⟩:=vD (X:=X) h1;exact ug p1 (pq h3) (p2 es)
theorem JE{vs:List V}{Z:List V->Hp->Prop}:tVs vs σ H Z=Z vs H:=rfl
theorem Ci{Q:VK}:A5 σ H Q=∀p,H p=none->Q (.ref p) (upd H p (.dK [])):=rfl
theorem Ft{td ty tv:TE}{D:cY}:zD td ty tv D σ H=tv σ H fun v H1=>td σ H1 fun x H2=>ty σ H2 fun y H3=>∃a H4,x=.ref a/\DPut H3 a y v H4/\D.nx σ H4:=rfl
theorem Fy{c:Addr}{Z:Addr->Hp->Prop}:(∃a H4,V.ref c=.ref a/\Z a H4)=∃H4,Z c H4:=propext ⟨by rintro ⟨_,H4,e,q⟩;cases e;exact ⟨H4,q⟩,by rintro ⟨H4,q⟩;exact zAE c H4 rfl q⟩
theorem FF{to ti:TE}{ts:xm}{v:V}{Q:St->Hp->Prop}:ED to ti ts v σ H Q=to σ H fun o H1=>ti σ H1 fun i H2=>ts o i v H2 fun H3=>Q σ H3:=rfl
def CD(t u:TS):TS:=fun D σ H=>∃Mid:St->Hp->Prop,t {D with nx:=Mid} σ H/\∀σ' H',Mid σ' H'->u D σ' H'
theorem zg{ta tb:TS}{D:cY}:CD ta tb D σ H=∃Mid:St->Hp->Prop,ta {D with nx:=Mid} σ H/\∀σ' H',Mid σ' H'->tb D σ' H':=rfl
end
end L2
namespace L2
variable {dx:Addr}
structure KlsAt(K:W.Frag)(mg:Str->Option Value)(x:Str)(C:Addr):Prop where
 cl:Cls K C
 mks:W.makesIn K C=true
 kp:W.keepIn K (.ref C)=true
 M:mg x=some (.ref C)
structure bI(K:W.Frag)(C:Addr)(m qual:Str)(st:Stmt)(ps:List Str)(f:Addr)(fd:FuncData):Prop where
 F:Fun K m qual st f fd
 B:Binds K fd ps []
 M:vt K C m f
theorem KlsAt.make{K:W.Frag}{mg:Str->Option Value}{x qual:Str}{C f:Addr}{st:Stmt}{ps:List Str}{fd:FuncData}(c:KlsAt K mg x C)(m:bI K C "__init__" qual st ps f fd):Mk K C f:=⟨c.mks,m.M.at_,m.M.fn,c.kp⟩
section
variable {X:Cx} {k:Nat} {f C:Addr} {fd:FuncData} {ps:List Str} {sp:Sp} {x m qual:Str} {st:Stmt} {p pos apos:Pos} {e o:Expr} {es:List Expr} {ta:TE} {t:TA}
theorem yZ(c:KlsAt X.K X.mg x C)(D:bI X.K C "__init__" qual st ps f fd) (G:FnOk X.prog X.w X.K X.mg X.base CX0 k f fd ps sp) (hr:Room (k+1) X.A)
  (ha:PA X (e::es) t) (hg:Gl X x) (hdb:(x==("__debug__":Str))=false:=by kernel_rfl) (he:starEach (e::es) X.env=(false,eval e X.env)::starEach es X.env:=by rfl) (hpl:(backTo pos (starEach es X.env)).any (·.1)=false:=by rfl) :
  PE X (.Call (.Name x p) (e::es) [] pos) (kz C sp [] E0 t):=C6 (c.make D) G hr hg c.M D.B .nil pv ha hdb he hpl
theorem z6{pl:Sem Bool}(c:Cls X.K C)(D:bI X.K C m qual st ps f fd)(G:FnOk X.prog X.w X.K X.mg X.base CX0 k f fd ps sp)(hr:Room k X.A)(he:PE X o ta)(ha:PA X (e::es) t)
  (hst:starEach (e::es) X.env=(false,eval e X.env)::starEach es X.env:=by rfl) (hpl:(backTo pos (starEach es X.env)).any (·.1)=false:=by rfl)
  (ht:eval (.Call (.Attribute o m apos) (e::es) [] pos) X.env=(do
   let ov <- eval o X.env
   standAt apos.atName
   let (f,first) <- holding [ov] (getMethod ov m pl)
   callWith pos f first (backTo pos (starEach (e::es) X.env)) (backToKw pos (keywordEach [] X.env))):=by rfl) :
  PE X (.Call (.Attribute o m apos) (e::es) [] pos) (i9 C m sp [] E0 ta t):=uh he c D.M G hr D.B .nil pv ha hst hpl ht
theorem wz{pl:Sem Bool}(c:Cls X.K C)(D:bI X.K C m qual st ps f fd)(G:FnOk X.prog X.w X.K X.mg X.base CX0 k f fd ps sp)(hr:Room k X.A)(he:PE X o ta)
  (ht:eval (.Call (.Attribute o m apos) [] [] pos) X.env=(do
   let ov <- eval o X.env
   standAt apos.atName
   let (f,first) <- holding [ov] (getMethod ov m pl)
   callWith pos f first (backTo pos (starEach [] X.env)) (backToKw pos (keywordEach [] X.env))):=by rfl) :
  PE X (.Call (.Attribute o m apos) [] [] pos) (i9 C m sp [] E0 ta qa):=yO he c D.M G hr D.B .nil pv ht
end
section
variable {H:Hp} {Q:VK} {σ:St} {D:cY} {K:W.Frag}
def xl(K:W.Frag)(x:V)(f:Str)(y:V)(H:Hp)(Z:Hp->Prop):Prop:=∃a C dx fs,x=.ref a/\H a=some (.ins C dx fs)/\Cls K C/\NoAttr K C f/\fs.length<1000/\Z (upd H a (.ins C dx (dC f y fs)))
def xk(K:W.Frag)(x:V)(f:Str)(H:Hp)(Q:VK):Prop:=∃a C dx fs v,x=.ref a/\H a=some (.ins C dx fs)/\Cls K C/\NoAttr K C f/\fs.lookup f=some v/\Q v H
def mj(C:Addr)(m:Str)(x:V)(H:Hp)(Z:Prop):Prop:=∃a dx fs,x=.ref a/\H a=some (.ins C dx fs)/\fs.lookup m=none/\Z
def Hl(C:Addr)(sp:Sp)(vs:List V)(H:Hp)(Q:VK)(E:XK):Prop:=∀x dx,H x=none->H dx=none->dx≠x->sp (.ref x::vs) (upd (upd H dx (.own x)) x (.ins C dx [])) (fun v H2=>v=.non/\Q (.ref x) H2) E
theorem Gn{ta tv:TE}{f:Str}:IW K ta tv f D σ H=tv σ H fun y H1=>ta σ H1 fun x H2=>xl K x f y H2 (D.nx σ):=rfl
theorem FI{ta:TE}{f:Str}:J3 K ta f σ H Q=ta σ H fun x H1=>xk K x f H1 Q:=rfl
theorem Ge{C:Addr}{m:Str}{sp:Sp}{E:XK}{ta:TE}{t:TA}:i9 C m sp [] E ta t σ H Q=ta σ H fun x H1=>mj C m x H1 (t σ H1 fun vs H2=>sp (x::vs) H2 Q E):=by unfold i9 mj;simp only [List.append_nil]
theorem Gd{C:Addr}{sp:Sp}{E:XK}{t:TA}:kz C sp [] E t σ H Q=t σ H fun vs H1=>Hl C sp vs H1 Q E:=by unfold kz Hl;simp only [List.append_nil]
theorem oC{p C:Addr}{fs:List (Str×V)}{f:Str}{y:V}{Z:Hp->Prop}(e:H p=some (.ins C dx fs))(c:Cls K C)(n:NoAttr K C f)(l:fs.length<1000)(h:Z (upd H p (.ins C dx (dC f y fs)))):xl K (.ref p) f y H Z:=zBB p C dx fs rfl e c n l h
theorem j3{p C:Addr}{fs:List (Str×V)}{f:Str}{v:V}(e:H p=some (.ins C dx fs))(c:Cls K C)(n:NoAttr K C f)(l:fs.lookup f=some v)(h:Q v H):xk K (.ref p) f H Q:=zAT p C dx fs v rfl e c n l h
theorem bQ{p C:Addr}{fs:List (Str×V)}{m:Str}{Z:Prop}(e:H p=some (.ins C dx fs))(l:fs.lookup m=none)(h:Z):mj C m (.ref p) H Z:=zAO p dx fs rfl e l h
end
end L2
namespace L2
section
variable {K:W.Frag} {h:Heap} {mg:Str->Option Value}
abbrev fnS (x qual:Str) (st:Stmt) (kV doc pm:Value) (an:Option Addr) (cdv ct:Value):FuncData:=W.fnOf x qual (dw st) (d6 st) (ax st) .none kV doc pm an cdv ct
abbrev qK (x qual:Str) (st:Stmt) (ps:List Str):Prop:=∀(kV doc pm:Value)(an:Option Addr)(cdv ct:Value)(us:List Value),us.length=ps.length->bindArgs (fnS x qual st kV doc pm an cdv ct) ⟨us,[]⟩=pure (ps.zip us)
theorem cD{x:Str}{st:Stmt}{ps:List Str}{f:Addr}{oc:Value}{od an:Option Addr}{osl:Array (Option Value)}{kV doc pm cdv ct:Value}(X:K.In h)(G:h.Ns mainGlobals mg)(a:W.nsIn K mainGlobals x=some (some (.ref f)))
  (l:K.lookup f=some ⟨oc,od,.func (W.fnOf x x (dw st) (d6 st) (ax st) .none kV doc pm an cdv ct),osl⟩) (c:W.codeIn K cdv x=true) (k:W.keepIn K (.ref f)=true) (b:qK x x st ps):bv K mg x st ps f (W.fnOf x x (dw st) (d6 st) (ax st) .none kV doc pm an cdv ct):=
 ⟨mz l c k,(mz l c k).binds b,W.mg_of X G a⟩
theorem gX{C:Addr}{x qual:Str}{st:Stmt}{ps:List Str}{f:Addr}{oc:Value}{od an:Option Addr}{osl:Array (Option Value)}{kV doc pm cdv ct:Value}(a:W.findIn K (.ref C) x=some (some (.ref f)))(i:W.isFn K (.ref f)=true)
  (l:K.lookup f=some ⟨oc,od,.func (W.fnOf x qual (dw st) (d6 st) (ax st) .none kV doc pm an cdv ct),osl⟩) (c:W.codeIn K cdv qual=true) (k:W.keepIn K (.ref f)=true) (b:qK x qual st ps):bI K C x qual st ps f (W.fnOf x qual (dw st) (d6 st) (ax st) .none kV doc pm an cdv ct):=
 ⟨mz l c k,(mz l c k).binds b,⟨a,i,k⟩⟩
theorem Ew{x:Str}{C:Addr}(X:K.In h)(G:h.Ns mainGlobals mg)(a:W.nsIn K mainGlobals x=some (some (.ref C)))(h1:W.plainGet K C Str.empty=true)(h2:W.hasDictIn K C=true)(h3:W.plainOver K C=true)
  (h4:W.findIn K (.ref C) "__setattr__"=some (some (.builtin "object.__setattr__"))) (h5:W.makesIn K C=true) (h6:W.keepIn K (.ref C)=true):KlsAt K mg x C:=⟨⟨h1,h2,h3,h4⟩,h5,h6,W.mg_of X G a⟩
end
section
variable {x qual p q r s t u:Str} {st:Stmt}
theorem bn1(h:∀kV doc pm an cdv ct a,bindArgs (fnS x qual st kV doc pm an cdv ct) ⟨[a],[]⟩=pure [(p,a)]):qK x qual st [p]:=fun kV doc pm an cdv ct us hl=>by
 match us,hl with
 | [a],_=>exact h kV doc pm an cdv ct a
theorem bn2(h:∀kV doc pm an cdv ct a b,bindArgs (fnS x qual st kV doc pm an cdv ct) ⟨[a,b],[]⟩=pure [(p,a),(q,b)]):qK x qual st [p,q]:=fun kV doc pm an cdv ct us hl=>by
 match us,hl with
 | [a,b],_=>exact h kV doc pm an cdv ct a b
theorem bn3(h:∀kV doc pm an cdv ct a b c,bindArgs (fnS x qual st kV doc pm an cdv ct) ⟨[a,b,c],[]⟩=pure [(p,a),(q,b),(r,c)]):qK x qual st [p,q,r]:=fun kV doc pm an cdv ct us hl=>by
 match us,hl with
 | [a,b,c],_=>exact h kV doc pm an cdv ct a b c
theorem bn4(h:∀kV doc pm an cdv ct a b c d,bindArgs (fnS x qual st kV doc pm an cdv ct) ⟨[a,b,c,d],[]⟩=pure [(p,a),(q,b),(r,c),(s,d)]):qK x qual st [p,q,r,s]:=fun kV doc pm an cdv ct us hl=>by
 match us,hl with
 | [a,b,c,d],_=>exact h kV doc pm an cdv ct a b c d
theorem bn5(h:∀kV doc pm an cdv ct a b c d e,bindArgs (fnS x qual st kV doc pm an cdv ct) ⟨[a,b,c,d,e],[]⟩=pure [(p,a),(q,b),(r,c),(s,d),(t,e)]):qK x qual st [p,q,r,s,t]:=fun kV doc pm an cdv ct us hl=>by
 match us,hl with
 | [a,b,c,d,e],_=>exact h kV doc pm an cdv ct a b c d e
end
end L2
namespace L2
section
variable {X:Cx}
end
end L2
namespace L2
theorem u7:∀{ns:List Int} {its:List Value},Vals (ns.map V.int) its->IntsAre its ns
 | [],_,.nil=>.nil
 |n::ns,_,.cons h t=>by obtain ⟨tk,rfl⟩:=h;exact .cons _ _ (u7 t)
section
variable {X:Cx}
def ur(K:W.Frag):List V->Hp->VK->Prop:=fun xs H Q=>∃(a:Addr)(ns:List Int),xs=[.ref a]/\SqL K H a (ns.map V.int)/\ns.length<64/\∀(l:Addr)(ns':List Int),H l=none->ns'.Perm ns->ns'.Pairwise (·<=·)->Q (.ref l) (upd H l (.lst (ns'.map V.int)))
theorem iJ:dM X (.builtin "sorted") (ur X.K):=by
 intro pins s σ H xs us Q I r h;obtain ⟨a,ns,rfl,hq,h64,q⟩:=h;obtain ⟨u,rfl,ru⟩:=fu r
 cases ru
 obtain ⟨its,rv,pl,_⟩:=I.list hq;have hl:=rv.length;rw [zq4] at hl;refine sorted_ints (vs:=its) pl.isList (u7 rv) Jlk fun out ns' a1 a2 a3=>?_;obtain ⟨e,he⟩:=sortedAll_at s.heap its out;have hk:∀b o,s.heap.get? b=some o->(sortedAll s.heap its out).get? b=some o:=fun _ _=>sortedAll_old;refine zAA (.ref (s.heap.objs.size+1)) _ (I.laid (t':=s.toks) hk (x9 _) (show ObjOk X.prog X.w _ (sortedAll s.heap its out) _ (.lst (ns'.map V.int)) from ⟨?_,zAE out.toList e (fW a1) ?_⟩)) rfl (q _ _ (I.hok.fresh (x9 _)) a2 a3)
 ·rw [zq4,a2.length_eq,b9];omega
 ·rw [Array.toArray_toList];exact he
theorem nR:∀{bs:List Bool} {its:List Value},Vals (bs.map V.bl) its->its=bs.map Value.bool
 | [],_,.nil=>rfl
 |b::bs,_,.cons h t=>by have e:_=Value.bool b:=h;rw [e,nR t];rfl
theorem wH{bs:List Bool}:(List.range bs.length).any (fun i=>bs.getD i true)=bs.any id:=by
 rw [eh,zq116,zq116]
 constructor
 ·rintro ⟨i,hi,h⟩;have hi:=zq33.mp hi;rw [cn,zq5 hi] at h;exact zn _ (dH hi) h
 ·rintro ⟨b,hb,h⟩;obtain ⟨i,hi,rfl⟩:=List.mem_iff_getElem.mp hb;refine zn i (zq33.mpr hi) ?_;rw [cn,zq5 hi];exact h
def HW(K:W.Frag):List V->Hp->VK->Prop:=fun xs H Q=>∃(a:Addr)(bs:List Bool),xs=[.ref a]/\SqL K H a (bs.map V.bl)/\Q (.bl (bs.any id)) H
theorem qd{P:Program}{w:World}{A:Around}{bs:List Bool}:TruthOf P w A (fun i v=>(bs.map Value.bool).toArray[i]?=some v) (fun i=>bs.getD i true):=by intro i v s Q E hv q;rw [E6,bq] at hv;obtain ⟨b,hb,rfl⟩:=zq47.mp hv;replace q:Q (bs.getD i true) s:=q;rw [cn,hb] at q;exact wpAny_truthy_bool q
theorem nT(hc:X.calm=true):dM X (.builtin "any") (HW X.K):=by
 intro pins s σ H xs us Q I r h;obtain ⟨a,bs,rfl,hq,q⟩:=h;obtain ⟨u,rfl,ru⟩:=fu r
 cases ru
 obtain ⟨its,rv,pl,_⟩:=I.list hq;obtain rfl:=nR rv;obtain ⟨o,ho,ro⟩:=pl.isList;have W:=Walks.list (prog:=X.prog) (w:=X.w) (A:=X.A.in1) (I.ok.hd hc) s.heap.objs.size a (cf (bH ho)) (bs.map Value.bool).toArray;refine call_any_walk (wpAny_pyIter_list pl.isList (zBM s.heap.objs.size _ _ _ _ _ (fun i=>bs.getD i true) (zAJ rfl W ⟨zAC _ (cF _ rfl) rfl rfl,pl.isList.push _⟩ qd fun h' tk hk=>?_)));have e:(bs.map Value.bool).toArray.size=bs.length:=by simp
 rw [e,wH];exact zAA (.bl _) H (I.kept (t':=tk) fun b ob hb=>hk b ob (fun z=>qD _ (by have:=bH hb;rw [zq9.mp z] at this;exact this)) (bO _ hb)) rfl q
end
end L2
namespace L2
open AutoSeq1 (wpAny_loadPart')
theorem uC:mroOf (.type "reversed")=pure [.type "reversed",.type "object"]:=by rw [mroOf_type];kernel_rfl
theorem Cw:typeLookup (.type "reversed") "__new__"=pure (some (.builtin "reversed.__new__")):=by rw [typeLookup_type,builtinLookup_eq_fast];kernel_rfl
theorem zz:Bind.madeBy (.type "reversed")=pure (some "reversed.__new__"):=madeBy_type uC Cw Jkk
theorem Cy:isSubtype (.type "list_reverseiterator") (.type "reversed")=pure false:=by rw [isSubtype_type];kernel_rfl
theorem zA:isSubtype (.type "reversed") (.type "reversed")=pure true:=by rw [isSubtype_type];kernel_rfl
theorem wJ:entryFor table "reversed.__new__"=some Builtin.«reversed.__new__»:=entryFor_of_tree Jkl
theorem gB(l:Addr)(items:Array Value)(n:Nat)(dct:Option Addr)(sl:Array (Option Value)):
  Meets (Builtin.«reversed.__new__» ⟨[.type "reversed",.ref l],[]⟩) (fun _ R s=>s.heap.get? l=some {cls:=.type "list",dict:=dct,data:=.seq items n,slots:=sl}/\
   R (.ok (.ret (.ref s.heap.objs.size))) {s with heap:=s.heap.push {cls:=.type "list_reverseiterator",data:=.fields #[.ref l,rawInt (((items.size:Nat):Int)-1)]}}):=
 .of_wp fun prog w A R s h=>by
  obtain ⟨hp,g,d,tk,os⟩:=s;obtain ⟨hl,h⟩:=h;have hsub:=zA;have hL:Heap.IsList (Shared.heap ⟨hp,g,d,tk,os⟩) l items:=zAC _ hl rfl ⟨n,rfl⟩
  wp_walk using wpAny_loadPart' hl
  refine wpAny_of_eq PySem.F.slot_list_reversed.lookup ?_;refine zq0 ?_;unfold bindSpecial;refine zq0 (wpAny_of_eq PySem.F.type_list_reversed ?_);rw [zq2 Jkm];refine zq3 ?_;show wpAny _ _ (if (Value.builtin "list.__reversed__"==Value.none)=true then _ else _) _ _ _;rw [zq1 Jkm];refine zq0 (wpAny_rule ?_);refine zq0 ?_;show wpAny (model prog w) A.in1 (call (.builtin "list.__reversed__") [.ref l]) _ _ _;refine wpAny_call_entry PySem.F.slot_list_reversed hL.typeIs PySem.F.entry_list_reversed ?_ (PySem.F.args_list_reversed_1 _)
  wp_walk using wpAny_loadPart' hl
  exact zn _ rfl (zq3 (zn _ rfl h))
def IsRev(h:Heap)(it l:Addr)(k:Int):Prop:=∃o,h.get? it=some o/\o.cls=.type "list_reverseiterator"/\o.data=.fields #[.ref l,.int k 0]
section
variable {prog:Program} {w:World} {A:Around} {E:Value->Shared->Prop} {s:Shared}
theorem gr{l:Addr}{items:Array Value}{Q:Value->Shared->Prop}(hL:s.heap.IsList l items)
  (h:∀h',IsRev h' s.heap.objs.size l (((items.size:Nat):Int)-1)->h'.objs.size=s.heap.objs.size+1->(∀b o,s.heap.get? b=some o->h'.get? b=some o)->Q (.ref s.heap.objs.size) {s with heap:=h'}) :
  wpAny (model prog w) A (call (.type "reversed") [.ref l]) Q E s:=by
 obtain ⟨⟨c,dct,dt,sl⟩,hl,hc,n,hd⟩:=hL;replace hc:c=.type "list":=hc;replace hd:dt=.seq items n:=hd;subst hc hd;have hmro:=uC;have hmade:=zz;have hsub:=Cy;refine wpAny_call (codeAny_of_tree ?_);show wpAny _ _ (callAny (.type "reversed") _) _ _ _;refine zq3 ⟨Code.quiet_builtin _ Jkk,sL F.entry_type_call ?_⟩;rw [Around.under_plain (weight_type_call_type "reversed" [.ref l] []) (units_type_call_type "reversed" [.ref l] [])];have h1:(Value.type "reversed"==Value.type "type")=false:=by decide +kernel
 have h2:((Manifest.find? "reversed").bind (·.mro.findSome? fun t=>(Manifest.find? t).bind fun b=>if b.noNew then some true else if b.attrs.any (·.1=="__new__") then some false else none)).getD false=false:=by decide +kernel
 have hct:checkTypeCall "reversed" ⟨[.ref l],[]⟩=pure ():=by kernel_rfl
 have hcn:checkBuiltinCall "reversed.__new__" ⟨[.type "reversed",.ref l],[]⟩=pure ():=by kernel_rfl
 repeat (any_goals (first | assumption | wp_step))
 have key:=gB l items n dct sl prog w A.in1 (wants (fun v s'=>v=.ref s.heap.objs.size/\s'={s with heap:=s.heap.push {cls:=.type "list_reverseiterator",data:=.fields #[.ref l,rawInt (((items.size:Nat):Int)-1)]}}) E) s (zAB hl rfl rfl);refine codeAny_mono (codeAny_call_builtin Jkk wJ (wpAny_of_eq hcn key)) fun r s₁ hr=>?_
 cases r with
 |error e=>exact hr
 |ok fl=>
  cases fl with
  |ret obj=>
   obtain ⟨rfl,rfl⟩:=hr;have hT:Shared.TypeIs {s with heap:=s.heap.push {cls:=.type "list_reverseiterator",data:=.fields #[.ref l,rawInt (((items.size:Nat):Int)-1)]}} (.ref s.heap.objs.size) "list_reverseiterator":=zn _ (cF _ rfl) rfl
   repeat (any_goals (first | assumption | wp_step))
   exact h _ (zAC _ (cF _ rfl) rfl rfl) (iI ..) (fun b o x=>bO _ x)
  |_=>exact hr.elim
end
end L2
namespace L2
variable {it l:Addr}
theorem slot_rev_next:Slot "list_reverseiterator" "__next__" "list_reverseiterator.__next__":=
 .of (owner:="list_reverseiterator") (n:="__next__") (by rw [typeLookup_type,builtinLookup_eq_fast];kernel_rfl) Jkk Jkk Jkk
  (by first | exact .inl Jkk | exact .inr Jkk) (by rw [isSubtype_type];kernel_rfl)
theorem gn:Slot "list_reverseiterator" "__iter__" "list_reverseiterator.__iter__":=
 .of (owner:="list_reverseiterator") (n:="__iter__") (by rw [typeLookup_type,builtinLookup_eq_fast];kernel_rfl) Jkk Jkk Jkk
  (by first | exact .inl Jkk | exact .inr Jkk) (by rw [isSubtype_type];kernel_rfl)
theorem fD:entryFor table "list_reverseiterator.__next__"=some Builtin.«list_reverseiterator.__next__»:=entryFor_of_tree Jkl
theorem jC:entryFor table "list_reverseiterator.__iter__"=some Builtin.«dict_keyiterator.__iter__»:=
 entryFor_alias (id':="dict_keyiterator.__iter__") Jkl (by first | rfl | decide +kernel | (unfold String.splitOn;simp +decide [String.splitOnAux])) Jkk Jkl
theorem gg(a:Value):argsOk "list_reverseiterator.__next__" ⟨[a],[]⟩:=by unfold argsOk;kernel_rfl
theorem kJ(a:Value):argsOk "list_reverseiterator.__iter__" ⟨[a],[]⟩:=by unfold argsOk;kernel_rfl
theorem IsRev.typeIs{s:Shared}{k:Int}(x:IsRev s.heap it l k):s.TypeIs (.ref it) "list_reverseiterator":=let ⟨o,ho,hc,_⟩:=x;(zn o ho hc)
section
variable {prog:Program} {w:World} {A:Around} {E:Value->Shared->Prop} {s:Shared}
theorem jW{k:Int}{Q:Value->Shared->Prop}(hi:IsRev s.heap it l k)(h:Q (.ref it) s):wpAny (model prog w) A (pyIter (.ref it)) Q E s:=by refine wpAny_pyIter_slot hi.typeIs gn (wpAny_call_entry gn hi.typeIs jC ?_ (kJ _));show wpAny _ _ (ret (.ref it)) _ _ s;exact zq3 (zn _ rfl (zAA ("list_reverseiterator") _ hi.typeIs slot_rev_next.lookup h))
theorem j8{i:Nat}{items:Array Value}{x:Value}{Q:Option Value->Shared->Prop}(hit:IsRev s.heap it l (i:Int))(hl:s.heap.IsList l items)(hx:items[i]?=some x)
 (hQ:∀h',IsRev h' it l ((i:Int)-1)->Heap.SameBut it s.heap h'->Q (some x) {s with heap:=h'}):wpAny (model prog w) A (pyNext (.ref it)) Q E s:=by
 obtain ⟨o,ho,hc,hd⟩:=id hit;obtain ⟨ol,hol,_,nl,hdl⟩:=hl;unfold pyNext;refine zq0 (wpAny_attempt (wpAny_callSpecial?_slot (name:=Str.ofString "__next__") hit.typeIs slot_rev_next (wpAny_call_entry slot_rev_next hit.typeIs fD ?_ (gg _))));show wpAny _ _ (field (.ref it) 1 >>= _) _ _ s;refine zq0 (wpAny_field ho hd (x:=.int i 0) rfl ?_);show wpAny _ _ (if (i:Int)<0 then _ else _) _ _ s;rw [zq1 Jlk];show wpAny _ _ (field (.ref it) 0 >>= _) _ _ s;refine zq0 (wpAny_field ho hd (x:=.ref l) rfl ?_);show wpAny _ _ (seqItems? (.ref l) >>= _) _ _ s;refine zq0 (wpAny_seqItems hol hdl ?_);simp only [Int.toNat_natCast,hx];refine zq0 (wpAny_setField ho hd Jll (zq3 (zn x rfl (zq3 (hQ _ ?_ (Heap.SameBut.update ..))))));exact zAC _ (sI _ ho (Obj.isFreed_of_fields (Obj.data_mapFields hd _))) ((Obj.cls_mapFields ..).trans hc) (by rw [Obj.data_mapFields hd];simp [rawInt])
theorem jX{Q:Option Value->Shared->Prop}(hh:A.handled=none)(hit:IsRev s.heap it l (-1))
 (hQ:∀h',Heap.ExtBut it s.heap h'->Q none {s with heap:=h'}):wpAny (model prog w) A (pyNext (.ref it)) Q E s:=by
 obtain ⟨o,ho,hc,hd⟩:=id hit;unfold pyNext;refine zq0 (wpAny_attempt (wpAny_callSpecial?_slot (name:=Str.ofString "__next__") hit.typeIs slot_rev_next (wpAny_call_entry slot_rev_next hit.typeIs fD ?_ (gg _))));show wpAny _ _ (field (.ref it) 1 >>= _) _ _ s;refine zq0 (wpAny_field ho hd (x:=.int (-1) 0) rfl ?_);show wpAny _ _ (if (-1:Int)<0 then _ else _) _ _ s;rw [zq2 Jkm];refine zq0 (wpAny_rule ?_);refine zq0 ?_;show wpAny _ _ (newExc (.type "StopIteration") [] >>= _) _ _ _;refine zq0 ?_;simp only [newExc,newTuple];refine zq0 (wpAny_newObj_type ?_ (by size_fits));refine zq0 (m:=firstArgMember _ _) (wpAny_of_eq (a:=Value.none) (by first | rfl | (simp only [firstArgMember];rfl)) ?_);refine wpAny_newObj_type ?_ (by size_fits);simp only [raiseNew];refine zq0 (wpAny_handled ?_);rw [show A.in1.handled=none from hh];refine zq0 (zq3 (wpAny_throw ?_));refine zq0 (wpAny_isInstance (T:="StopIteration") (b:=true) ⟨_,cF _ rfl,rfl⟩ isSubtype_stop ?_);exact zq3 (hQ _ (fun b o _ e=>bO _ (bO _ e)))
end
end L2
namespace L2
def Itv(K:W.Frag)(a:Addr)(n:Nat):It:=
 ⟨fun i H=>∃xs,SqL K H a xs/\xs.length=n/\i<n,fun i H x H'=>H'=H/\∀xs,SqL K H a xs->xs.reverse[i]?=some x,fun i _=>n<=i⟩
theorem Gq{α:Type}{xs:List α}{i:Nat}(h:i<xs.length):xs.reverse[i]?=xs[xs.length-1-i]?:=by rw [E7 h]
theorem IsRev.keep{h h':Heap}{it l:Addr}{k:Int}(x:IsRev h it l k)(hk:∀o,h.get? it=some o->h'.get? it=some o):IsRev h' it l k:=let ⟨o,ho,r⟩:=x;(zn o (hk o ho) r)
theorem Ag{P:Program}{w:World}{K:W.Frag}{tg:Expr}(a it:Addr)(n:Nat):kI P w K tg (Itv K a n) [it] it (fun i h=>i<=n/\IsRev h it a ((n:Int)-1-(i:Nat))) where
 mem:=by simp
 obj:=fun i h st b hb=>by
  have e:b=it:=by simpa using hb
  subst e;obtain ⟨_,o,e,c,d⟩:=st;exact zn o e (fun v z=>by rw [d] at z;cases z)
 keep:=fun i h h' st k=>⟨st.1,st.2.keep fun o e=>k it Jll o e⟩
 item:=by
  intro X hP hw hK hc i pins s σ H E I hf st hg;subst hP hw hK;obtain ⟨xs,hq,hn,hi⟩:=hg;subst hn;obtain ⟨x,hx⟩:∃x,xs[xs.length-1-i]?=some x:=⟨_,zq5 Jlk⟩
  obtain ⟨its,rv,p,hz⟩:=I.list hq;obtain ⟨u,hu,ru⟩:=rv.get hx;obtain ⟨f0,f1,f2,f3,f4,f5⟩:=hf it Jll;have st0:IsRev s.heap it a ((xs.length-1-i:Nat):Int):=by have:=st.2;rw [show ((xs.length:Int)-1-(i:Nat))=((xs.length-1-i:Nat):Int) by omega] at this;exact this
  refine j8 st0 p.isList (x:=u) (by simpa using hu) fun h' st' sb=>?_;have I1:Inv X pins σ H {s with heap:=h'}:=I.turned (t':=s.toks) (fun b o hb e=>(sb.2 b hb).trans e) f0 f1 f3 f4 f5;obtain ⟨o,e,c,d⟩:=id st';have st2:IsRev h' it a ((xs.length:Int)-1-((i+1:Nat):Int)):=by rw [show ((xs.length:Int)-1-((i+1:Nat):Int))=((xs.length-1-i:Nat):Int)-1 by omega];exact st'
  exact zn u rfl (tT (s:={s with heap:=h'}) e c d Jkm (zAP x H I1 ru ⟨rfl,fun ys hy=>by rw [I.list_inj hy hq,Gq hi];exact hx⟩ ⟨hi,st2⟩ fun b hb=>(hf b hb).1))
 done:=by
  intro X hP hw hK hc i pins s σ H E I hf st hg;subst hP hw hK;obtain ⟨f0,f1,f2,f3,f4,f5⟩:=hf it Jll;have hg':n<=i:=hg;have e:i=n:=Nat.le_antisymm st.1 hg';have st0:IsRev s.heap it a (-1):=by have:=st.2;rw [show ((n:Int)-1-(i:Nat))=-1 by omega] at this;exact this
  exact jX (I.ok.hd hc) st0 fun h' eb=>⟨rfl,I.turned (t':=s.toks) (fun b o hb e=>eb b o hb e) f0 f1 f3 f4 f5⟩
 self:=fun _ _ _ _ _ st h=>jW st.2 h
def EG(K:W.Frag)(ta:TA):TI:=fun σ H R=>ta σ H fun vs H1=>∃a xs,vs=[.ref a]/\SqL K H1 a xs/\R (Itv K a xs.length) H1
theorem Fd{X:Cx}{tg a:Expr}{ta:TA}{p pos:Pos}(hm:X.mg "reversed"=none) (ha:PA X [a] ta) (hg:Gl X "reversed":=by rfl) (hs:starEach [a] X.env=[(false,eval a X.env)]:=by rfl) :
  PI X tg (.Call (.Name "reversed" p) [a] [] pos) (EG X.K ta):=by
 intro pins s σ H R I h;refine Call_ (dP I hg hm boot_reversed (PyProof.Rows.callWith_type1 (thn (ha pos pins s σ H _ I h) fun us s1 hhx=>?_) hs rfl));obtain ⟨vs,H1,I1,r1,q1⟩:=hhx;obtain ⟨l,xs,e,hq,q⟩:=q1;subst e
 cases r1 with
 |cons r rr=>
  cases rr
  cases r
  obtain ⟨its,rv,pl,hz⟩:=I1.list hq;have hlen:=rv.length;refine gr pl.isList fun h' hit hsz hk=>?_;refine jW hit ?_;have I2:Inv X pins σ H1 {s1 with heap:=h'}:=I1.kept (t':=s1.toks) hk;refine zAT s1.heap.objs.size ([s1.heap.objs.size]) _ _ H1 rfl I2 (Ag l _ xs.length) ⟨bT _,?_⟩ (fun b hb=>?_) q
  ·have e:(((its.toArray.size:Nat):Int)-1)=((xs.length:Int)-1-((0:Nat):Int)):=by simp [hlen]
   rw [e] at hit;exact hit
  ·rw [zq9.mp hb];exact I1.fpOk (zq6 _) (I1.hok.fresh (zq6 _))
section
variable {g:TG} {tb:TS} {D:cY} {σ:St} {H:Hp}
theorem FJ{K:W.Frag}{ta:TA}{R:It->Hp->Prop}:EG K ta σ H R=ta σ H fun vs H1=>∃a xs,vs=[.ref a]/\SqL K H1 a xs/\R (Itv K a xs.length) H1:=rfl
theorem EC{K:W.Frag}{a:Addr}{xs:List V}(Pv:Nat->St->Hp->Prop)(h0:Pv 0 σ H)(hl:∀i σ H,i<=xs.length->Pv i σ H->SqL K H a xs)
  (hs:∀(i:Nat)x σ H,xs.reverse[i]?=some x->Pv i σ H->g x σ H fun σ2 H2=>tb {D with nx:=Pv (i+1),ct:=Pv (i+1),bk:=D.nx} σ2 H2) (hd:∀σ H,Pv xs.length σ H->D.nx σ H):nC (Itv K a xs.length) g tb D σ H:=by
 refine zn (fun i m σ H=>m=xs.length-i/\i<=xs.length/\Pv i σ H) (zAC xs.length Jll (bT _) h0) ?_;rintro i m σ H ⟨rfl,hi,p⟩;have q:=hl i σ H hi p
 by_cases hlt:i<xs.length
 ·refine .inr ⟨zAC xs q rfl hlt,zn (Pv (i+1)) (fun σ' H' p'=>zAG (xs.length-(i+1)) Jlk rfl hlt p') fun x H' y=>?_⟩;obtain ⟨eH,y⟩:=y;subst eH;exact hs i x σ H' (y xs q) p
 ·have e:i=xs.length:=by omega
  subst e;exact .inl ⟨zq6 _,hd σ H p⟩
end
end L2
namespace L2
section
variable {prog:Program} {w:World} {A:Around} {E:Value->Shared->Prop} {s:Shared}
end
end L2
namespace L2
section
variable {X:Cx}
end
end L2
namespace L2
end L2
namespace L2
variable {X:Cx} {a b c e i iter o:Expr} {apos p pos':Pos} {es:List Expr} {f:Addr} {ps:List Str} {qual x:Str} {sp:Sp} {tA:TT} {ta td te:TE} {wi:TI}
structure XE(X:Cx)(e:Expr)(t:TE):Prop where
 h:PE X e t
structure XT(X:Cx)(e:Expr)(t:TT):Prop where
 h:PT X e t
structure XW(X:Cx)(e:Expr)(t:TT):Prop where
 h:PW X e t
structure XA(X:Cx)(es:List Expr)(t:TA):Prop where
 h:PA X es t
structure XS(X:Cx)(st:Stmt)(t:TS):Prop where
 h:PS X st t
structure XSs(X:Cx)(st:List Stmt)(t:TS):Prop where
 h:PSs X st t
structure XG(X:Cx)(target:Expr)(t:TG):Prop where
 h:PG X target t
structure XGs(X:Cx)(ts:List Expr)(t:TGs):Prop where
 h:PGs X ts t
structure XI(X:Cx)(tg iter:Expr)(wi:TI):Prop where
 h:PI X tg iter wi
structure XO(X:Cx)(e:Option Expr)(t:TO):Prop where
 h:PO X e t
structure XC(X:Cx)(op:CmpOp)(a b:Expr)(t:TE):Prop where
 h:PC X op a b t
structure xn(X:Cx)(ifs:List Expr)(t:TT):Prop where
 h:vv X ifs t
theorem af{i j pos}:XE X (.Constant (.int i) j pos) (tC (.int i)):=⟨yM⟩
theorem c5{b j pos}:XE X (.Constant (.bool b) j pos) (tC (.bl b)):=⟨CY⟩
theorem dF{j pos}:XE X (.Constant .none j pos) (tC .non):=⟨yP⟩
theorem aH{x j pos}:XE X (.Constant (.str x) j pos) (tC (.str x)):=⟨yQ⟩
theorem ay{tb:TE}{pos:Pos}{op:Operator}{r:R2}(ho:OpR X (binaryOp op) r)(ha:XE X a ta)(hb:XE X b tb):XE X (.BinOp a op b pos) (tOp r ta tb):=⟨by intro pins s σ H Q I h;exact wpAny_BinOp (Er ha.h hb.h I h fun v u s2 x y H2 I2 rx ry q=>ho pins s2 σ H2 x y v u Q I2 rx ry q)⟩
theorem kB{pos:Pos}{op:UnaryOp}{r:V->Hp->VK->Prop}(ho:UnR X (unaryOp op) r)(ha:XE X a ta):XE X (.UnaryOp op a pos) (tUn r ta):=⟨by intro pins s σ H Q I h;exact UnaryOp_ (thn (ha.h pins s σ H _ I h) fun v s1 ⟨x,H1,I1,r1,q1⟩=>ho pins s1 σ H1 x v Q I1 r1 q1)⟩
theorem cz{tb:TE}{pos:Pos}{op:CmpOp}{r:R2}(ho:OpR X (compareOp op) r)(ha:XE X a ta)(hb:XE X b tb)(hm:behindInMarks op b=false):XE X (.Compare a [op] [b] pos) (tOp r ta tb):=⟨by intro pins s σ H Q I h;exact wpAny_Compare1 (Er ha.h hb.h I h fun v u s2 x y H2 I2 rx ry q=>ho pins s2 σ H2 x y v u Q I2 rx ry q) hm⟩
theorem CM{pos:Pos}{op:CmpOp}{t:TE}(h:XC X op a b t)(h1:behindInMarks op b=false:=by first | exact oY _ Jkm Jkm | rfl):XE X (.Compare a [op] [b] pos) t:=⟨fun pins s σ H Q I hw=>wpAny_Compare1 (h.h pins s σ H Q I hw) h1⟩
theorem ng{b:Expr}{tb:TE}{pos:Pos}{dW:List Expr}(ha:XE X a ta)(hb:XE X (.BoolOp .And (b::dW) pos) tb):XE X (.BoolOp .And (a::b::dW) pos) (DX ta tb):=⟨by
 intro pins s σ H Q I h;refine BoolOp_and (thn (ha.h pins s σ H _ I h) fun v s1 hhx=>?_);obtain ⟨x,H1,I1,r1,q1⟩:=hhx;obtain ⟨c,rfl,q1⟩:=q1
 cases r1
 refine wpAny_truthy_bool ?_
 cases c with
 |true=>exact hb.h pins s1 σ H1 Q I1 q1
 |false=>exact zAA (.bl false) H1 I1 rfl q1⟩
theorem Hh{b:Expr}{tb:TE}{pos:Pos}{dW:List Expr}(ha:XE X a ta)(hb:XE X (.BoolOp .Or (b::dW) pos) tb):XE X (.BoolOp .Or (a::b::dW) pos) (J6 ta tb):=⟨by
 intro pins s σ H Q I h;refine BoolOp_or (thn (ha.h pins s σ H _ I h) fun v s1 hhx=>?_);obtain ⟨x,H1,I1,r1,q1⟩:=hhx;obtain ⟨c,rfl,q1⟩:=q1
 cases r1
 refine wpAny_truthy_bool ?_
 cases c with
 |false=>exact hb.h pins s1 σ H1 Q I1 q1
 |true=>exact zAA (.bl true) H1 I1 rfl q1⟩
theorem jo{pos:Pos}{op}{t:TE}(h:XE X a t):XE X (.BoolOp op [a] pos) t:=⟨fun pins s σ H Q I hw=>BoolOp_one (h.h pins s σ H Q I hw)⟩
theorem CN{pos:Pos}(ha:XE X a ta):XE X (.UnaryOp .Not a pos) (E3 ta):=⟨by
 intro pins s σ H Q I h;refine UnaryOp_ (thn (ha.h pins s σ H _ I h) fun v s1 hhx=>?_);obtain ⟨x,H1,I1,r1,q1⟩:=hhx;obtain ⟨c,rfl,q1⟩:=q1
 cases r1
 exact not_of (wpAny_truthy_bool (zAA (.bl (! c)) H1 I1 rfl q1))⟩
theorem fY{tb:TE}{pos:Pos}(hc:XT X c tA)(ha:XE X a ta)(hb:XE X b tb):XE X (.IfExp c a b pos) (tIf tA ta tb):=⟨by
 intro pins s σ H Q I h;refine wpAny_IfExp (thn (hc.h pins s σ H _ I h) fun d s1 hhx=>?_);obtain ⟨H1,I1,q1⟩:=hhx
 cases d with
 |true=>exact ha.h pins s1 σ H1 Q I1 q1
 |false=>exact hb.h pins s1 σ H1 Q I1 q1⟩
theorem aI{t:TA}{pos:Pos}(h:XA X es t):XE X (.List es pos) (J4 t):=⟨by intro pins s σ H Q I hq;refine wpAny_List_spliced (thn (h.h pos pins s σ H _ I hq) fun us s1 ⟨xs,H1,I1,r,z,q⟩=>⟨by rw [<- r.length];exact z,?_⟩);have hf:H1 s1.heap.objs.size=none:=I1.hok.fresh (zq6 _);refine zAA (.ref s1.heap.objs.size) (upd H1 s1.heap.objs.size (.lst xs)) (I1.laid (t':=s1.toks) (fun b u e=>bO _ e) (zq6 _) ?_) rfl (q _ hf);exact ⟨z,zAE us 0 r (cF _ rfl)⟩⟩
theorem aE{t:TA}{pos:Pos}{x1}(h:XA X es t):XE X (.Tuple es x1 pos) (J7 t):=⟨by intro pins s σ H Q I hq;refine wpAny_Tuple_spliced (thn (h.h pos pins s σ H _ I hq) fun us s1 ⟨xs,H1,I1,r,z,q⟩=>⟨by rw [<- r.length];exact z,?_⟩);have hf:H1 s1.heap.objs.size=none:=I1.hok.fresh (zq6 _);refine zAA (.ref s1.heap.objs.size) (upd H1 s1.heap.objs.size (.tup xs)) (I1.laid (t':=s1.toks) (fun b u e=>bO _ e) (zq6 _) ?_) rfl (q _ hf);exact ⟨z,zn us r (zAC _ (cF _ rfl) rfl ⟨_,rfl⟩)⟩⟩
theorem wY{pos:Pos}:XE X (.Dict [] [] pos) A5:=⟨fun pins s σ H Q I h=>wpAny_Dict_empty (zAA (.ref s.heap.objs.size) _ (I.laid (a:=s.heap.objs.size) (o:=.dK []) (t':=s.toks) (fun _ _ q=>bO _ q) (zq6 _) (xJ s.heap I.big)) rfl (h _ (I.hok.fresh (zq6 _))))⟩
theorem aD{pos:Pos}{e:Expr}{t:TA}{id:String}{r:List V->Hp->VK->Prop}(hc:dM X (.builtin id) r)(hg:Gl X x)(hm:X.mg x=none)(hv:bootBuiltins x=some (.builtin id))(ha:XA X (e::es) t)(hn:(x==("__name__":Str))=false:=by kernel_rfl) (hdb:(x==("__debug__":Str))=false:=by kernel_rfl) (he:starEach (e::es) X.env=(false,eval e X.env)::starEach es X.env:=by rfl) (hpl:(backTo pos (starEach es X.env)).any (·.1)=false:=by rfl):XE X (.Call (.Name x p) (e::es) [] pos) (tCB r t):=⟨yH hc hg hm hv ha.h (mJ hn) hdb he hpl⟩
theorem bL{pos:Pos}{e:Expr}{t:TA}{T:String}{r:List V->Hp->VK->Prop}(hc:dM X (.type T) r)(hg:Gl X x)(hm:X.mg x=none)(hv:bootBuiltins x=some (.type T))(ha:XA X (e::es) t)(hn:(x==("__name__":Str))=false:=by kernel_rfl) (hdb:(x==("__debug__":Str))=false:=by kernel_rfl) (he:starEach (e::es) X.env=(false,eval e X.env)::starEach es X.env:=by rfl) (hpl:(backTo pos (starEach es X.env)).any (·.1)=false:=by rfl):XE X (.Call (.Name x p) (e::es) [] pos) (tCB r t):=⟨wn hc hg hm hv ha.h (mJ hn) hdb he hpl⟩
theorem au{k:Nat}{fd:FuncData}{st:Stmt}{pos:Pos}{e:Expr}{t:TA}(D:bv X.K X.mg x st ps f fd)(G:FnOk X.prog X.w X.K X.mg X.base CX0 k f fd ps sp)(hr:Room k X.A)(ha:XA X (e::es) t)(hg:Gl X x)(hdb:(x==("__debug__":Str))=false:=by kernel_rfl) (he:starEach (e::es) X.env=(false,eval e X.env)::starEach es X.env:=by rfl) (hpl:(backTo pos (starEach es X.env)).any (·.1)=false:=by rfl):XE X (.Call (.Name x p) (e::es) [] pos) (q9 sp [] E0 t):=⟨yX D G hr ha.h hg hdb he hpl⟩
theorem c6{e:Expr}{to:TE}{t:TA}{name:Str}{cpos:Pos}{T id:String}{r:V->List V->Hp->VK->Prop}(pa:PlainAttrs T)(slot:Slot T name id)(hty:typeOf (.builtin id)=pure (.type "method_descriptor")) (hm:MtR X id r) (ho:XE X o to) (ha:XA X (e::es) t) (hbase:attributeBase o name X.env (eval o X.env)=eval o X.env:=by rfl) (hfew:((backTo cpos (starEach (e::es) X.env)).all (fun x=>! x.1)&&(backToKw cpos (keywordEach [] X.env)).all (fun x=>x.1.isSome)
 && decide ((e::es).length+([]:List Keyword).length+(if ([]:List Keyword).isEmpty then 0 else 1)<30))=true:=by rfl) (hline:(apos.endLine==cpos.line)=true:=by rfl) (hs:starEach (e::es) X.env=(false,eval e X.env)::starEach es X.env:=by rfl) (hplain:(backTo cpos (starEach es X.env)).any (·.1)=false:=by rfl):XE X (.Call (.Attribute o name apos) (e::es) [] cpos) (tBM X.K T r to t):=⟨HU pa slot hty hm ho.h ha.h hbase hfew hline hs hplain⟩
theorem jn{to:TE}{name:Str}{cpos:Pos}{T id:String}{r:V->List V->Hp->VK->Prop}(pa:PlainAttrs T)(slot:Slot T name id)(hty:typeOf (.builtin id)=pure (.type "method_descriptor")) (hm:MtR X id r) (ho:XE X o to) (hbase:attributeBase o name X.env (eval o X.env)=eval o X.env:=by rfl) (hline:(apos.endLine==cpos.line)=true:=by rfl):XE X (.Call (.Attribute o name apos) [] [] cpos) (IZ X.K T r to):=⟨by intro pins s σ H Q I h;refine wpAny_Call_method0_late hbase hline (thn (ho.h pins s σ H _ I h) fun v s1 hhx=>?_);obtain ⟨x,H1,I1,r1,ty,q1⟩:=hhx;obtain ⟨h1,h2⟩:=sv I1 r1 ty;exact zAZ T id pa slot hty h1 h2 (Calls.callWith_builtin rfl (PySem.evalArgs_none (hm pins s1 σ H1 x [] v [] Q I1 r1 .nil q1)))⟩
theorem dI{lo hi:Option Expr}{tl th:TO}{pos p2:Pos}{r:V->Option Int->Option Int->Hp->VK->Prop}(hr:SlR X r)(he:XE X e te)(hl:XO X lo tl)(hu:XO X hi th):XE X (.Subscript e (.Slice lo hi none p2) pos) (tSl r te tl th):=⟨by intro pins s σ H Q I h;refine Subscript_ (thn (he.h pins s σ H _ I h) fun v s1 hhx=>?_);obtain ⟨x,H1,I1,r1,q1⟩:=hhx;refine wpAny_Slice (thn (hl.h pins s1 σ H1 _ I1 q1) fun vl s2 ⟨l,H2,I2,pl,q2⟩=>thn (hu.h pins s2 σ H2 _ I2 q2) fun vu s3 hhx=>?_);obtain ⟨u,H3,I3,pu,q3⟩:=hhx;rw [evalPart_none];refine zq3 ?_;have I4:Inv X pins σ H3 {s3 with heap:=s3.heap.push {cls:=.type "slice",data:=.fields #[vl,vu,.none]}}:=I3.kept (t':=s3.toks) fun b ob q=>bO _ q;obtain ⟨T,id,hT,ht,hg⟩:=hr pins {s3 with heap:=s3.heap.push {cls:=.type "slice",data:=.fields #[vl,vu,.none]}} σ H3 x v vl vu l u s3.heap.objs.size Q I4 r1 (Heap.IsSliceOf.new ..) pl pu q3;show wpAny (model X.prog X.w) X.A (subscriptTail e (.Slice lo hi none p2) v (.ref s3.heap.objs.size)) (EP X pins σ Q) X.xe {s3 with heap:=s3.heap.push {cls:=.type "slice",data:=.fields #[vl,vu,.none]}};exact tail_any (ops:=[.ref s3.heap.objs.size,v]) ht hT hg (by with_unfolding_all rfl)⟩
theorem qi{pos:Pos}{ty:TE}(hu:X.A.units+1<cLine)(ho:XE X o td)(hi:XE X i ty)(hs:Ek i):XE X (.Subscript o i pos) (DZ td ty):=⟨by intro pins s σ H Q I h;refine uU PySem.F.slot_dict_getitem.lookup hs (thn (ho.h pins s σ H _ I h) fun u s1 ⟨x,H1,I1,rx,q1⟩=>thn (hi.h pins s1 σ H1 _ I1 q1) fun iv s2 hhx=>?_);obtain ⟨y,H2,I2,ry,a,v,ex,g,q2⟩:=hhx;subst ex;obtain rfl:u=Value.ref a:=rx;exact ⟨ox I2 g,vG hu I2 g ry fun w' s3 I3 rw'=>zAA v H2 I3 rw' q2⟩⟩
theorem ak{tb:TE}{pos:Pos}{r:R2}(hr:IxR X r)(ha:XE X a ta)(hb:XE X b tb)(hs:B5 b:=by intro _ _;rfl):XE X (.Subscript a b pos) (tOp r ta tb):=⟨by intro pins s σ H Q I h;exact Subscript_ (Er ha.h hb.h I h fun v u s2 x y H2 I2 rx ry q=>hr a b pins s2 σ H2 x y v u Q I2 rx ry q (hs _ _))⟩
theorem cH{f:Str}{pos:Pos}(he:XE X e ta)(hb:attributeBase e f X.env (eval e X.env)=eval e X.env):XE X (.Attribute e f pos) (J3 X.K ta f):=⟨by intro pins s σ H Q I h;refine Ba hb (thn (he.h pins s σ H _ I h) fun u s1 hhx=>?_);obtain ⟨x,H1,I1,rx,a,C,dx,fs,v,ex,ea,c,n,l,q⟩:=hhx;subst ex;obtain rfl:u=Value.ref a:=rx;exact rg I1 ea c n l fun u' s2 I2 ru=>zAA v H1 I2 ru q⟩
theorem br{elt tgt:Expr}{ifs:List Expr}{pos:Pos}{scope:Scope}{g:Bk->TG}{tt:Bk->TT}{te:Bk->TE}{tns cns:List Str}{ci:List Nat}(hc:X.calm=true)(S:CompSc X scope cns ci)(hi:XI X tgt iter wi)(hg:∀bk:Bk,XG (X.blk (".0"::(tns++cns)) scope bk) tgt (g bk)) (ht:∀bk:Bk,xn (X.blk (".0"::(tns++cns)) scope bk) ifs (tt bk)) (he:∀bk:Bk,XE (X.blk (".0"::(tns++cns)) scope bk) elt (te bk)) (hs:∀v,foldedSetIterable iter X.env v=pure v:=by intro _;rfl):XE X (.ListComp elt [⟨tgt,iter,ifs,0⟩] scope pos) (kx wi g tt te tns.length ci):=⟨yK hc S hi.h (fun bk=>(hg bk).h) (fun bk=>(ht bk).h) (fun bk=>(he bk).h) hs⟩
theorem eT{v:V}{u:Value}{pos:Pos}(hg:Gl X x)(hm:X.mg x=none)(hv:bootBuiltins x=some u)(r:RelV v u)(hn:(x==("__name__":Str))=false:=by kernel_rfl) (hd:(x==("__debug__":Str))=false:=by kernel_rfl):XE X (.Name x pos) (tC v):=⟨C3 hg hm hv r (mJ hn) hd⟩
theorem Ao{v:V}{u:Value}{pos:Pos}(hg:Gl X x)(hm:X.mg x=some u)(r:RelV v u)(hd:(x==("__debug__":Str))=false:=by kernel_rfl):XE X (.Name x pos) (tC v):=⟨C5 hg hm r hd⟩
theorem ap{tb:TE}{pos:Pos}{op:CmpOp}{r:R2}(ho:OpR X (compareOp op) r)(ha:XE X a ta)(hb:XE X b tb)(hm:behindInMarks op b=false):XT X (.Compare a [op] [b] pos) (Aa (tOp r ta tb)):=⟨by
 intro pins s σ H Q I h;refine wpAny_isTrue_Compare1 (thn (ha.h pins s σ H _ I h) fun v s1 ⟨x,H1,I1,r1,q1⟩=>thn (hb.h pins s1 σ H1 _ I1 q1) fun u s2 ⟨y,H2,I2,r2,q2⟩=>thn (ho pins s2 σ H2 x y v u _ I2 r1 r2 q2) fun c s3 ⟨z,H3,I3,r3,k,e,q3⟩=>?_) hm
 subst e
 cases r3
 exact wpAny_truthy_bool (zn H3 I3 q3)⟩
theorem x4{tb tc:TE}{pos:Pos}{op op':CmpOp}{r r':R2}(ho:OpR X (compareOp op) r)(ho':OpR X (compareOp op') r')(ha:XE X a ta)(hb:XE X b tb)(hc:XE X c tc)(hm:lastMarks [op,op'] [b,c]=false:=by with_unfolding_all rfl):XT X (.Compare a [op,op'] [b,c] pos) (Aa (A2 r r' ta tb tc)):=⟨by
 intro pins s σ H Q I h;refine isTrue_chain (thn (ha.h pins s σ H _ I h) fun v s1 ⟨x,H1,I1,r1,q1⟩=>test_link (thn (hb.h pins s1 σ H1 _ I1 q1) fun u s2 ⟨y,H2,I2,r2,q2⟩=>thn (ho pins s2 σ H2 x y v u _ I2 r1 r2 q2) fun d s3 ⟨z,H3,I3,r3,k,e,q3⟩=>?_)) hm
 subst e
 cases r3
 refine wpAny_truthy_bool ?_
 cases k with
 |false=>
  obtain ⟨k',e',q'⟩:=q3
  cases e'
  exact ite_ff (zn H3 I3 q')
 |true=>
  refine ite_tt (test_last (thn (hc.h pins s3 σ H3 _ I3 q3) fun w' s4 ⟨z',H4,I4,r4,q4⟩=>thn (ho' pins s4 σ H4 y z' u w' _ I4 r2 r4 q4) fun d' s5 hhx=>?_));obtain ⟨z2,H5,I5,r5,k2,e2,q5⟩:=hhx;subst e2
  cases r5
  exact wpAny_truthy_bool (zn H5 I5 q5)⟩
theorem cv{t:TE}(h:XE X e t)(he:∀whole,isTrue e X.env whole=(do let v <- whole;standAt e.pos;holding [v] (truthy v)):=by intro _;rfl):XT X e (tB t):=⟨by
 intro pins s σ H Q I hw;refine isTrue_plain (thn (h.h pins s σ H _ I hw) fun v s1 hhx=>?_) (he _);obtain ⟨x,H1,I1,r1,q1⟩:=hhx;obtain ⟨d,rfl,q⟩:=q1
 cases r1
 exact wpAny_truthy_bool (zn H1 I1 q)⟩
theorem x5(ha:XE X a ta)(he:∀whole,isTrue a X.env whole=(do let v <- whole;standAt a.pos;holding [v] (truthy v))):XT X a (fun σ H Q=>ta σ H fun x H'=>∃k,En X.K x H' k/\Q k H'):=⟨yW ha.h he⟩
theorem cV{pos:Pos}(ha:XT X a tA):XT X (.UnaryOp .Not a pos) (J5 tA):=⟨by intro pins s σ H Q I h;exact isTrue_not (ha.h pins s σ H (fun c H1=>Q (! c) H1) I h)⟩
theorem jp{pos:Pos}{op:CmpOp}{t:TE}(h:XC X op a b t)(h1:behindInMarks op b=false:=by first | exact oY _ Jkm Jkm | rfl):XT X (.Compare a [op] [b] pos) (tB t):=⟨by
 intro pins s σ H Q I hw;refine wpAny_isTrue_Compare1 (thn (h.h pins s σ H _ I hw) fun v s1 h1=>thn h1 fun u s2 h2=>thn h2 fun c s3 hhx=>?_) h1;obtain ⟨x,H1,I1,r1,q1⟩:=hhx;obtain ⟨d,rfl,q⟩:=q1
 cases r1
 exact wpAny_truthy_bool (zn H1 I1 q)⟩
theorem bR{t:TT}(h:XW X e t):XT X e t:=⟨PW.pt h.h⟩
theorem cC{b:Expr}{pos:Pos}{tB':TT}{dW:List Expr}(ha:XT X a tA)(hb:XW X (.BoolOp .And (b::dW) pos) tB'):XW X (.BoolOp .And (a::b::dW) pos) (IY tA tB'):=⟨by
 intro wh pins s σ H Q I h;refine isTrue_and (thn (ha.h pins s σ H _ I h) fun c s1 hhx=>?_);obtain ⟨H1,I1,q1⟩:=hhx
 cases c with
 |true=>exact hb.h wh pins s1 σ H1 Q I1 q1
 |false=>exact zn H1 I1 q1⟩
theorem ck{pos:Pos}(ha:XT X a tA):XW X (.BoolOp .And [a] pos) tA:=⟨by
 intro wh pins s σ H Q I h;refine isTrue_and (thn (ha.h pins s σ H Q I h) fun c s1 e=>?_)
 cases c with
 |true=>exact isTrue_and_nil e
 |false=>exact e⟩
theorem dh{b:Expr}{pos:Pos}{tB':TT}{dW:List Expr}(ha:XT X a tA)(hb:XW X (.BoolOp .Or (b::dW) pos) tB'):XW X (.BoolOp .Or (a::b::dW) pos) (tOr tA tB'):=⟨by
 intro wh pins s σ H Q I h;refine isTrue_or (thn (ha.h pins s σ H _ I h) fun c s1 hhx=>?_);obtain ⟨H1,I1,q1⟩:=hhx
 cases c with
 |true=>exact zn H1 I1 q1
 |false=>exact hb.h wh pins s1 σ H1 Q I1 q1⟩
theorem d7{pos:Pos}(ha:XT X a tA):XW X (.BoolOp .Or [a] pos) tA:=⟨by
 intro wh pins s σ H Q I h;refine isTrue_or (thn (ha.h pins s σ H Q I h) fun c s1 e=>?_)
 cases c with
 |false=>exact isTrue_or_nil e
 |true=>exact e⟩
theorem ac:XA X [] qa:=⟨yF⟩
theorem aa{e:Expr}{t:TA}(ha:XE X e te)(hr:XA X es t)(hs:starEach (e::es) X.env=(false,eval e X.env)::starEach es X.env:=by rfl):XA X (e::es) (A3 te t):=⟨ug ha.h hr.h hs⟩
theorem ie:XO X none uW:=⟨by intro pins s σ H Q I h;rw [evalPart_none];exact zq3 (zAA none H I .none h)⟩
theorem de(h:XE X e te):XO X (some e) (E4 te):=⟨by intro pins s σ H Q I hw;rw [evalPart_some];refine thn (h.h pins s σ H _ I hw) fun u s1 hhx=>?_;obtain ⟨x,H1,I1,r1,q1⟩:=hhx;obtain ⟨i,rfl,q⟩:=q1;obtain ⟨t,rfl⟩:=r1;exact zAA (some i) H1 I1 (.int i t) q⟩
theorem av{pos:Pos}{i:Nat}(hN:X.N.Nodup)(hi:X.N[i]?=some x)(hx:Loc X.env.scope x)(hf:X.fn x=true\/X.env.scope.names.lookup x=some .local:=by first | exact .inl rfl | exact .inr rfl | assumption):XG X (.Name x pos) (bD i):=⟨ui hN hi hx hf⟩
theorem dG{pos:Pos}{k:Nat}{t:TGs}{n:Nat}(hc:X.calm=true)(h:XGs X es t)(hn:(assignEach es X.env).length=n:=by rfl)(hst:(assignEach es X.env).findIdx? (·.1)=none:=by rfl):XG X (.Tuple es k pos) (Hy X.K n t):=⟨by
 intro pins s σ H v u Q I r hw;obtain ⟨a,xs,e1,hq,hl,hw⟩:=hw;subst e1
 cases r
 obtain ⟨its,rv,ht,hz⟩:=I.tuple hq;refine assign_Tuple_tuple (I.ok.hd hc) ht (by simp [hn,<- hl,rv.length]) hst fun h' hx=>?_;have I1:Inv X pins σ H {s with heap:=h'}:=I.kept (t':=s.toks) fun b o e=>hx b o (cf (bH e)) e;exact h.h pins _ σ H xs _ Q I1 (by simpa using rv) hw⟩
theorem cU:XGs X [] Hx:=⟨by
 intro pins s σ H vs us Q I r h;obtain ⟨e,h⟩:=h;subst e
 cases r
 exact assignInOrder_nil (zAE σ H I h)⟩
theorem aT{e:Expr}{t:TG}{u:TGs}(h1:XG X e t)(h2:XGs X es u)(hs:(assignEach (e::es) X.env).map (·.2)=assign e X.env::(assignEach es X.env).map (·.2):=by rfl):XGs X (e::es) (CT t u):=⟨by
 intro pins s σ H vs us Q I r h;obtain ⟨v,vr,e1,h⟩:=h;subst e1
 cases r with
 |cons r rr=>rw [hs];refine assignInOrder_cons (thn (h1.h pins s σ H _ _ _ I r h) fun _ s1 hhx=>?_);obtain ⟨σ1,H1,I1,q1⟩:=hhx;exact h2.h pins s1 σ1 H1 _ _ Q I1 rr q1⟩
theorem ni{pos:Pos}{to ti:TE}{t:xm}(ho:XE X o to)(hi:XE X i ti)(hs:Em X t)(ha:∀v,assign (.Subscript o i pos) X.env v=(do
 let ov <- holding [v] (eval o X.env)
 let iv <- holding [v,ov] (eval i X.env)
 standAt pos
 holding [v,ov,iv] (setItem ov iv v)
 release [v,ov,iv] []):=by intro _;rfl):XG X (.Subscript o i pos) (ED to ti t):=⟨Fc ho.h hi.h hs ha⟩
theorem cK{tg:Expr}{ta:TA}{pos:Pos}(hg:Gl X "range") (hm:X.mg "range"=none) (ha:XA X [a] ta) (hs:starEach [a] X.env=[(false,eval a X.env)]:=by rfl):XI X tg (.Call (.Name "range" p) [a] [] pos) (CV ta):=⟨by
 intro pins s σ H R I h;refine Call_ (dP I hg hm boot_range (PyProof.Rows.callWith_type1 (thn (ha.h pos pins s σ H _ I h) fun us s1 hhx=>?_) hs rfl));obtain ⟨vs,H1,I1,r1,q1⟩:=hhx;obtain ⟨j,e,q1,q2,q⟩:=q1;subst e
 cases r1 with
 |cons r rr=>
  cases rr
  obtain ⟨t,rfl⟩:=r;exact call_range_1 (zx I1 Jlk Jlk q1 q2 (by simpa using q))⟩
theorem ql{ta:TA}{pos pos0:Pos}{elts:List Expr}{k0:Nat}(hm:X.mg "enumerate"=none) (ha:XA X [a] ta) (hg:Gl X "enumerate":=by rfl) (hs:starEach [a] X.env=[(false,eval a X.env)]:=by rfl):XI X (.Tuple elts k0 pos0) (.Call (.Name "enumerate" p) [a] [] pos) (xZ X.K ta):=⟨C8 hm ha.h hg hs⟩
theorem aN{tg:Expr}{l:Expr}{tl:TE}(hl:XE X l tl):XI X tg l (CU X.K tl):=⟨by
 intro pins s σ H R I h;refine thn (hl.h pins s σ H _ I h) fun v s1 hhx=>?_;obtain ⟨x,H1,I1,r1,q1⟩:=hhx;obtain ⟨a,e,⟨xs,hq⟩,q⟩:=q1;subst e
 cases r1
 obtain ⟨its,rv,p,hz⟩:=I1.list hq;refine wpAny_pyIter_list p.isList ?_;refine zAT s1.heap.objs.size ([s1.heap.objs.size]) _ _ H1 rfl (I1.kept (t':=s1.toks) fun b o e=>bO _ e) (wQ a _) (zAC _ (cF _ rfl) rfl rfl) (fun b hb=>?_) q;have e:b=s1.heap.objs.size:=by simpa using hb
 subst e;exact I1.fpOk (zq6 _) (I1.hok.fresh (zq6 _))⟩
theorem CP{tg:Expr}{l:Expr}{tl:TE}(hl:XE X l tl):XI X tg l (HA X.K tl):=⟨by
 intro pins s σ H R I h;refine thn (hl.h pins s σ H _ I h) fun v s1 hhx=>?_;obtain ⟨x,H1,I1,r1,q1⟩:=hhx;obtain ⟨a,e,⟨xs,hq⟩,q⟩:=q1;subst e
 cases r1
 obtain ⟨its,rv,p,hz⟩:=I1.tuple hq;refine wpAny_pyIter_tuple (show s1.heap.IsTuple a its.toArray from p) ?_;refine zAT s1.heap.objs.size ([s1.heap.objs.size]) _ _ H1 rfl (I1.kept (t':=s1.toks) fun b o e=>bO _ e) (su a _) (zAC _ (cF _ rfl) rfl rfl) (fun b hb=>?_) q;have e:b=s1.heap.objs.size:=by simpa using hb
 subst e;exact I1.fpOk (zq6 _) (I1.hok.fresh (zq6 _))⟩
theorem aq{pos:Pos}{i:Nat}(hN:X.N.Nodup)(hi:X.N[i]?=some x)(hx:Loc X.env.scope x)(he:XE X e te)(hs:swapsWith e (some (.Name x pos')) pos.line X.env=pure false:=by rfl)(hf:X.fn x=true\/X.env.scope.names.lookup x=some .local:=by first | exact .inl rfl | exact .inr rfl | assumption):XS X (.Assign [.Name x pos'] e pos) (CC te (bD i)):=⟨Fi hN hi hx he.h hs hf⟩
theorem eC{i:Nat}{px:Pos}{elt tgt:Expr}{ifs:List Expr}{pos:Pos}{scope:Scope}{g:Bk->TG}{tt:Bk->TT}{te:Bk->TE}{tns cns:List Str}{ci:List Nat}(hN:X.N.Nodup)(hx:X.N[i]?=some x)(hl:Loc X.env.scope x)(hf:X.fn x=true)(hsw:swapsWith (.ListComp elt [⟨tgt,iter,ifs,0⟩] scope pos) (some (.Name x px)) pos'.line X.env=pure true)(hc:X.calm=true)(S:CompSc X scope cns ci)(hi:XI X tgt iter wi)(hg:∀bk:Bk,XG (X.blk (".0"::(tns++cns)) scope bk) tgt (g bk)) (ht:∀bk:Bk,xn (X.blk (".0"::(tns++cns)) scope bk) ifs (tt bk)) (he:∀bk:Bk,XE (X.blk (".0"::(tns++cns)) scope bk) elt (te bk)) (hs:∀v,foldedSetIterable iter X.env v=pure v:=by intro _;rfl):XS X (.Assign [.Name x px] (.ListComp elt [⟨tgt,iter,ifs,0⟩] scope pos) pos') (kd i wi g tt te tns.length ci):=⟨rQ hN hx hl hf hsw hc S hi.h (fun bk=>(hg bk).h) (fun bk=>(ht bk).h) (fun bk=>(he bk).h) hs⟩
theorem fZ{pos:Pos}{tg:Expr}{g:TG}(he:XE X e te)(hg:XG X tg g)(hs:swapsWithSole [tg] e pos.line X.env=pure false:=by rfl)(hw:swappedStores [tg] e X.env=pure none:=by rfl)(h1:(assignEach [tg] X.env).map (·.2)=[assign tg X.env]:=by rfl):XS X (.Assign [tg] e pos) (CC te g):=⟨by intro pins s σ H D I h;refine wpAny_Assign_stores (thn (he.h pins s σ H _ I h) fun v s1 hhx=>?_) hs hw;obtain ⟨x,H1,I1,r1,q1⟩:=hhx;rw [h1];exact thn (hg.h pins s1 σ H1 x v _ I1 r1 q1) fun _ s2 q=>q⟩
theorem eA{value:Expr}{f:Str}{pos:Pos}{tv:TE}(ha:XE X o ta)(hv:XE X value tv)(hs:swapsWith value (some (.Attribute o f pos')) pos.line X.env=pure false):XS X (.Assign [.Attribute o f pos'] value pos) (IW X.K ta tv f):=⟨by intro pins s σ H D I h;refine plainObj_wpAny_Assign_Attribute (thn (hv.h pins s σ H _ I h) fun u s1 ⟨y,H1,I1,ry,q⟩=>thn (ha.h pins s1 σ H1 _ I1 q) fun ov s2 hhx=>?_) hs;obtain ⟨x,H2,I2,rx,a,C,dx,fs,ex,ea,c,n,l,q2⟩:=hhx;subst ex;obtain rfl:ov=Value.ref a:=rx;exact se I2 ea c n l ry fun s3 I3=>zAE σ _ I3 q2⟩
theorem ig{value:Expr}{pos:Pos}{ty tv:TE}(hu:X.A.units+1<cLine)(ho:XE X o td)(hi:XE X i ty)(hv:XE X value tv)(hs:swapsWith value (some (.Subscript o i pos')) pos.line X.env=pure false):XS X (.Assign [.Subscript o i pos'] value pos) (zD td ty tv):=⟨Cb hu ho.h hi.h hv.h hs⟩
theorem aw{pos:Pos}(he:XE X e te):XS X (.Return (some e) pos) (A8 te):=⟨by intro pins s σ H D I h;exact wpAny_Return_some (thn (he.h pins s σ H _ I h) fun v s1 ⟨x,H1,I1,r1,q1⟩=>zAN x σ H1 I1 r1 q1)⟩
theorem aR{pos:Pos}(he:XE X e te)(hs:swapsWith e none pos.line X.env=pure false:=by rfl):XS X (.Expr e pos) (E1 te):=⟨by intro pins s σ H D I h;exact wpAny_Expr_any (thn (he.h pins s σ H _ I h) fun v s1 ⟨x,H1,I1,r1,q1⟩=>zAE σ H1 I1 q1) I.quiet hs⟩
theorem aL{t u:TS}{pos:Pos}{a b:List Stmt}{tc:TT}(hc:XT X c tc)(ha:XSs X a t)(hb:XSs X b u):XS X (.If c a b pos) (GT tc t u):=⟨by
 intro pins s σ H D I h;refine wpAny_If (thn (hc.h pins s σ H _ I h) fun d s1 hhx=>?_);obtain ⟨H1,I1,q1⟩:=hhx
 cases d with
 |true=>exact ha.h pins s1 σ H1 D I1 q1
 |false=>exact hb.h pins s1 σ H1 D I1 q1⟩
theorem dJ{pos:Pos}{body:List Stmt}{tc:TT}{tb:TS}(hp:PassesOwn (model X.prog X.w) X.A X.env X.xe)(hc:XT X c tc)(hb:XSs X body tb):XS X (.While c body [] pos) (Ab tc tb):=⟨by
 intro pins s σ H D I h;obtain ⟨W,⟨m0,w0⟩,turn⟩:=h;refine wpAny_While (codeAny_whileLoop (fun n s'=>∃σ' H',Inv X pins σ' H' s'/\W n σ' H') ?_ m0 (zAE σ H I w0));rintro n s1 ⟨σ1,H1,I1,w1⟩;refine wpAny_passesOwn hp (thn (hc.h pins s1 σ1 H1 _ I1 (turn n σ1 H1 w1)) fun b s2 hhx=>?_);obtain ⟨H2,I2,q2⟩:=hhx
 cases b with
 |true=>
  obtain ⟨N,hN,q2⟩:=q2;rw [zq2 rfl];refine wpAny_passesOwn hp (thn (hb.h pins s2 σ1 H2 _ I2 q2) fun f s3 q3=>?_)
  cases f with
  |next=>
   obtain ⟨σ3,H3,I3,n3⟩:=q3;obtain ⟨m',hm,w3⟩:=hN σ3 H3 n3;exact zn m' hm (zAE σ3 H3 I3 w3)
  |cont=>
   obtain ⟨σ3,H3,I3,n3⟩:=q3;obtain ⟨m',hm,w3⟩:=hN σ3 H3 n3;exact zn m' hm (zAE σ3 H3 I3 w3)
  |brk=>exact q3
  |ret v=>exact q3
 |false=>rw [zq1 bz];exact wpAny_execs_nil (zAE σ1 H2 I2 q2)⟩
theorem b8{tg:Expr}{body:List Stmt}{g:TG}{tb:TS}{pos:Pos}(hp:PassesOwn (model X.prog X.w) X.A X.env X.xe)(hc:X.calm=true)(hi:XI X tg iter wi)(hg:XG X tg g)(hb:XSs X body tb)(hs:∀x,foldedSetIterable iter X.env x=pure x:=by intro _;rfl):XS X (.For tg iter body [] pos) (GS wi g tb):=⟨Fh hp hc hi.h hg.h hb.h hs⟩
theorem nq{pos:Pos}:XS X (.Continue pos) DY:=⟨fun _ _ σ H _ I h=>wpAny_Continue (zAE σ H I h)⟩
theorem aC:XSs X [] E2:=⟨fun _ _ σ H _ I h=>wpAny_execs_nil (zAE σ H I h)⟩
theorem aj{st:Stmt}{t:TS}(h1:XS X st t):XSs X [st] t:=⟨by
 intro pins s σ H D I h;refine wpAny_execs_cons (thn (h1.h pins s σ H D I h) fun f s1 q=>?_)
 cases f with
 |next=>exact wpAny_execs_nil q
 |ret v=>exact q
 |brk=>exact q
 |cont=>exact q⟩
theorem ai{st:Stmt}{dW:List Stmt}{t u:TS}(h1:XS X st t)(h2:XSs X dW u):XSs X (st::dW) (GU t u):=⟨by
 intro pins s σ H D I h;refine wpAny_execs_cons (thn (h1.h pins s σ H {D with nx:=u D} I h) fun f s1 q=>?_)
 cases f with
 |next=>
  obtain ⟨σ',H',I',q⟩:=q;exact h2.h pins s1 σ' H' D I' q
 |ret v=>exact q
 |brk=>exact q
 |cont=>exact q⟩
theorem bo{st:Stmt}{ss:List Stmt}{ta tb:TS}(h1:XS X st ta)(h2:XSs X ss tb):XSs X (st::ss) (CD ta tb):=⟨by
 intro pins s σ H D I h;obtain ⟨Mid,a,b⟩:=h;refine wpAny_execs_cons (thn (h1.h pins s σ H {D with nx:=Mid} I a) fun f s1 q=>?_)
 cases f with
 |next=>
  obtain ⟨σ',H',I',q⟩:=q;exact h2.h pins s1 σ' H' D I' (b σ' H' q)
 |ret v=>exact q
 |brk=>exact q
 |cont=>exact q⟩
theorem bN:xn X [] kA:=⟨fun pins s σ H Q I h=>wpAny_tests_nil (zn H I h)⟩
theorem nh{t:TT}(h:XT X c t):xn X [c] t:=⟨fun pins s σ H Q I q=>wpAny_tests_one (h.h pins s σ H Q I q)⟩
theorem v7{ty:TE}(hu:X.A.units+1<cLine)(hi:XE X i ty)(ho:XE X o td):XC X .In i o (J0 ty td):=⟨by intro pins s σ H Q I h;refine thn (hi.h pins s σ H _ I h) fun iv s1 ⟨y,H1,I1,ry,q1⟩=>thn (ho.h pins s1 σ H1 _ I1 q1) fun u s2 hhx=>?_;obtain ⟨x,H2,I2,rx,a,ov,ex,g,q2⟩:=hhx;subst ex;obtain rfl:u=Value.ref a:=rx;exact Jr hu I2 g ry fun s3 I3=>zAA (.bl ov.isSome) H2 I3 rfl q2⟩
theorem gF{ty:TE}(hu:X.A.units+1<cLine)(hi:XE X i ty)(ho:XE X o td):XC X .NotIn i o (jl ty td):=⟨by intro pins s σ H Q I h;refine thn (hi.h pins s σ H _ I h) fun iv s1 ⟨y,H1,I1,ry,q1⟩=>thn (ho.h pins s1 σ H1 _ I1 q1) fun u s2 hhx=>?_;obtain ⟨x,H2,I2,rx,a,ov,ex,g,q2⟩:=hhx;subst ex;obtain rfl:u=Value.ref a:=rx;exact Bn hu I2 g ry fun s3 I3=>zAA (.bl (! ov.isSome)) H2 I3 rfl q2⟩
theorem Ja{CX:CXT}{k:Nat}{C:Addr}{fd:FuncData}{dvs:List V}{ds:List Value}{E:XK}{m:Str}{pos:Pos}{e:Expr}{t:TA}{pl:Sem Bool}(he:XE X o ta)(c:Cls X.K C)(hm:vt X.K C m f)(F:FnOk X.prog X.w X.K X.mg X.base CX k f fd ps sp)(hr:Room k X.A)(hb:Binds X.K fd ps ds)(hd:Vals dvs ds)(hx:eU CX X E)(ha:XA X (e::es) t)(hst:starEach (e::es) X.env=(false,eval e X.env)::starEach es X.env:=by rfl)(hpl:(backTo pos (starEach es X.env)).any (·.1)=false:=by rfl)(ht:eval (.Call (.Attribute o m apos) (e::es) [] pos) X.env=(do
 let ov <- eval o X.env
 standAt apos.atName
 let (f,first) <- holding [ov] (getMethod ov m pl)
 callWith pos f first (backTo pos (starEach (e::es) X.env)) (backToKw pos (keywordEach [] X.env))):=by rfl):XE X (.Call (.Attribute o m apos) (e::es) [] pos) (i9 C m sp dvs E ta t):=⟨uh he.h c hm F hr hb hd hx ha.h hst hpl ht⟩
theorem me{k:Nat}{C:Addr}{fd:FuncData}{st:Stmt}{pos:Pos}{e:Expr}{t:TA}(c:KlsAt X.K X.mg x C)(D:bI X.K C "__init__" qual st ps f fd) (G:FnOk X.prog X.w X.K X.mg X.base CX0 k f fd ps sp) (hr:Room (k+1) X.A) (ha:XA X (e::es) t) (hg:Gl X x) (hdb:(x==("__debug__":Str))=false:=by kernel_rfl) (he:starEach (e::es) X.env=(false,eval e X.env)::starEach es X.env:=by rfl) (hpl:(backTo pos (starEach es X.env)).any (·.1)=false:=by rfl):XE X (.Call (.Name x p) (e::es) [] pos) (kz C sp [] E0 t):=⟨yZ c D G hr ha.h hg hdb he hpl⟩
theorem sG{k:Nat}{C:Addr}{fd:FuncData}{st:Stmt}{pos:Pos}(c:KlsAt X.K X.mg x C)(D:bI X.K C "__init__" qual st ps f fd) (G:FnOk X.prog X.w X.K X.mg X.base CX0 k f fd ps sp) (hr:Room (k+1) X.A) (hg:Gl X x) (hdb:(x==("__debug__":Str))=false:=by kernel_rfl):XE X (.Call (.Name x p) [] [] pos) (kz C sp [] E0 qa):=⟨yN (c.make D) G hr hg c.M D.B .nil pv hdb⟩
theorem aW{k:Nat}{C:Addr}{fd:FuncData}{m:Str}{st:Stmt}{pos:Pos}{e:Expr}{t:TA}{pl:Sem Bool}(c:Cls X.K C)(D:bI X.K C m qual st ps f fd)(G:FnOk X.prog X.w X.K X.mg X.base CX0 k f fd ps sp)(hr:Room k X.A)(he:XE X o ta)(ha:XA X (e::es) t)(hst:starEach (e::es) X.env=(false,eval e X.env)::starEach es X.env:=by rfl)(hpl:(backTo pos (starEach es X.env)).any (·.1)=false:=by rfl)(ht:eval (.Call (.Attribute o m apos) (e::es) [] pos) X.env=(do
 let ov <- eval o X.env
 standAt apos.atName
 let (f,first) <- holding [ov] (getMethod ov m pl)
 callWith pos f first (backTo pos (starEach (e::es) X.env)) (backToKw pos (keywordEach [] X.env))):=by rfl):XE X (.Call (.Attribute o m apos) (e::es) [] pos) (i9 C m sp [] E0 ta t):=⟨z6 c D G hr he.h ha.h hst hpl ht⟩
theorem kC{k:Nat}{C:Addr}{fd:FuncData}{m:Str}{st:Stmt}{pos:Pos}{pl:Sem Bool}(c:Cls X.K C)(D:bI X.K C m qual st ps f fd)(G:FnOk X.prog X.w X.K X.mg X.base CX0 k f fd ps sp)(hr:Room k X.A)(he:XE X o ta)(ht:eval (.Call (.Attribute o m apos) [] [] pos) X.env=(do
 let ov <- eval o X.env
 standAt apos.atName
 let (f,first) <- holding [ov] (getMethod ov m pl)
 callWith pos f first (backTo pos (starEach [] X.env)) (backToKw pos (keywordEach [] X.env))):=by rfl):XE X (.Call (.Attribute o m apos) [] [] pos) (i9 C m sp [] E0 ta qa):=⟨wz c D G hr he.h ht⟩
theorem eR{vs:List V}(h:jb es=some vs):XA X es (tVs vs):=⟨pq h⟩
end L2
namespace L2
theorem CO  {X:Cx} {tg a:Expr} {ta:TA} {p pos:Pos} (hm:X.mg "reversed"=none) (ha:XA X [a] ta) (hg:Gl X "reversed":=by rfl) (hs:starEach [a] X.env=[(false,eval a X.env)]:=by rfl):XI X tg (.Call (.Name "reversed" p) [a] [] pos) (EG X.K ta):=⟨Fd hm ha.h hg hs⟩
end L2
namespace L2
variable {H:Hp} {σ:St}
section
variable {X:Cx}
def Bi(x:V)(xs:List V):Nat:=xs.countP fun y=>eqV y x
def z8(K:W.Frag):V->List V->Hp->VK->Prop:=fun x vs H Q=>∃l xs y,x=.ref l/\vs=[y]/\SqL K H l xs/\c7 y=true/\xs.all c7=true/\Q (.int (Bi y xs)) H
theorem lh{x:V}:∀{xs:List V} {us:List Value},Vals xs us->xs.all c7=true->us.countP (eqU x)=xs.countP fun y=>eqV y x
 |_,_,.nil,_=>rfl
 |x'::xs,_,.cons h t,f=>by rw [AZ,ee] at f;rw [xb,xb,lh t f.2,qY h f.1]
theorem yf:MtM X "list.count" (z8 X.K):=by
 intro pins s σ H x vs v us Q I rx rv h;obtain ⟨l,xs,y,rfl,rfl,hq,fy,fx,q⟩:=h
 cases rx
 obtain ⟨u,rfl,ru⟩:=rv.one;obtain ⟨its,r,pl,_⟩:=I.list hq;obtain ⟨o,n,e,c,hd,hdt⟩:=id pl;obtain ⟨oc,od,odt,osl⟩:=o;simp only at c hd hdt;subst c hd hdt;refine call_meets F.slot_list_count (zn _ e rfl) F.entry_list_count (F.args_list_count_2 _ _) (SeqAt.list_countAt l its.toArray n none osl u (eqU y)) (zAB e (fun z hz=>eJ ru fy r fx z (by simpa using hz)) ?_);rw [show its.toArray.toList=its from rfl,lh r fx];exact zAA (.int _) H (I.tok _) ⟨_,rfl⟩ q
def ky(ta:TA):TE:=fun σ H Q=>ta σ H fun vs H1=>∃n:Nat,vs=[.int n]/\n<=1000/\∀l,H1 l=none->Q (.ref l) (upd H1 l (.lst ((List.range n).map fun i:Nat=>V.int i)))
theorem lM{acc:Array Value}{n:Nat}(h:ItemsOf (fun i v=>∃t,v=Value.int (0+(i:Int) * 1) t) acc n):Vals ((List.range n).map fun i:Nat=>V.int i) acc.toList:=by
 obtain ⟨h1,h2⟩:=h;subst h1;rw [<- ja];have g:∀(l:List Value)(k:Nat),(∀(i:Nat)v,l[i]?=some v->∃t,v=Value.int ((k+i:Nat):Int) t)->Vals ((List.range' k l.length).map fun i:Nat=>V.int i) l:=by
  intro l
  induction l with
  |nil=>intro k _;exact .nil
  |cons a l ih=>
   intro k hl;refine .cons ?_ (ih (k+1) fun i v hv=>?_)
   ·obtain ⟨t,e⟩:=hl 0 a rfl;exact ⟨t,e⟩
   ·obtain ⟨t,e⟩:=hl (i+1) v hv;exact ⟨t,by rw [e];congr 1;omega⟩
 have z:=g acc.toList 0 fun i v hv=>by obtain ⟨t,e⟩:=h2 i v (by rw [<- hv,qF]);exact ⟨t,by rw [e];congr 1;omega⟩
 rw [List.range_eq_range'];exact z
theorem rO{a:Expr}{ta:TA}{p p2 pos pos2:Pos}(hc:X.calm=true)(hm:X.mg "list"=none) (hm2:X.mg "range"=none) (ha:PA X [a] ta) (hg:Gl X "list") (hg2:Gl X "range") (hs:starEach [a] X.env=[(false,eval a X.env)]:=by rfl)
  (hs2:starEach [.Call (.Name "range" p2) [a] [] pos2] X.env=[(false,eval (.Call (.Name "range" p2) [a] [] pos2) X.env)]:=by rfl) :
  PE X (.Call (.Name "list" p) [.Call (.Name "range" p2) [a] [] pos2] [] pos) (ky ta):=by
 intro pins s σ H Q I h;refine Call_ (dP I hg hm boot_list (PyProof.Rows.callWith_type1 ?_ hs2 rfl));rw [hs2];show wpAny _ _ (spliced ((false,eval (.Call (.Name "range" p2) [a] [] pos2) X.env)::[])) _ _ s;refine Calls.spliced_cons (Call_ (dP I hg2 hm2 boot_range (PyProof.Rows.callWith_type1 (thn (ha pos2 pins s σ H _ I h) fun us s1 hhx=>?_) hs rfl)));obtain ⟨vs,H1,I1,r1,q1⟩:=hhx;obtain ⟨n,e,hn,q⟩:=q1;subst e
 cases r1 with
 |cons r rr=>
  cases rr
  obtain ⟨t,rfl⟩:=r;refine call_range_1 (Calls.spliced_nil ?_);refine call_list_range (n:=n) (I.ok.hd hc) (IsRange.new ..) (small_one Jlk Jlk Jlk Jlk) (by rw [rangeSize_one];split<;>omega) Jlk fun h' tk acc c' hk hS hacc=>?_;have kp:∀b u,s1.heap.get? b=some u->h'.get? b=some u:=fun b u e=>hk b u (bO _ e);refine zAA (.ref _) _ (I1.laid (t':=tk) kp ?_ (show ObjOk X.prog X.w _ h' _ (.lst ((List.range n).map fun i:Nat=>V.int i)) from ⟨by rw [zq4,cX,b9];omega,zAE acc.toList c' (lM hacc) hS⟩)) rfl (q _ (I1.hok.fresh ?_))
  ·show s1.heap.objs.size<=(s1.heap.push _).objs.size;rw [iI];omega
  ·show s1.heap.objs.size<=(s1.heap.push _).objs.size;rw [iI];omega
theorem wB{ta:TA}{Q:VK}:ky ta σ H Q=ta σ H fun vs H1=>∃n:Nat,vs=[.int n]/\n<=1000/\∀l,H1 l=none->Q (.ref l) (upd H1 l (.lst ((List.range n).map fun i:Nat=>V.int i))):=rfl
theorem qj{a:Expr}{ta:TA}{p p2 pos pos2:Pos}(hc:X.calm=true)(hm:X.mg "list"=none) (hm2:X.mg "range"=none) (ha:XA X [a] ta) (hg:Gl X "list") (hg2:Gl X "range") (hs:starEach [a] X.env=[(false,eval a X.env)]:=by rfl)
  (hs2:starEach [.Call (.Name "range" p2) [a] [] pos2] X.env=[(false,eval (.Call (.Name "range" p2) [a] [] pos2) X.env)]:=by rfl) :
  XE X (.Call (.Name "list" p) [.Call (.Name "range" p2) [a] [] pos2] [] pos) (ky ta):=⟨rO hc hm hm2 ha.h hg hg2 hs hs2⟩
end
def EL(pr:Params):Key->Int
 | .inl k=>hashInt k
 | .inr x=>if x.cps.isEmpty=true then 0 else reduceHash (pr.strHash x.cps)
def nB(K:W.Frag)(pr:Params)(a:Addr)(kvs:List (Key×V)):Prop:=∃(es:List DictEntry)(ep:Nat),K.lookup a=some ⟨.type "dict",none,.dict es.toArray ep,#[]⟩/\(a==sysModules)=false/\(kvs.map (·.1)).Nodup/\Paired (fun (kv:Key×V) (e:DictEntry)=>iO kv.1 e.key=true/\e.hash=EL pr kv.1/\RelV kv.2 e.val) kvs es
theorem iN{P:Program}{w:World}:∀{kvs:List (Key×V)} {es:List DictEntry},Paired (fun (kv:Key×V) (e:DictEntry)=>iO kv.1 e.key=true/\e.hash=EL w.params kv.1/\RelV kv.2 e.val) kvs es->
  ∃vs:List (Key×Value),KV kvs vs/\Pairs (bB P w) es vs/\∀e∈es,∃k,(bB P w).is k e.key=true/\e.hash=(bB P w).hash k
 |_,_,.nil=>zAC ([]) .nil .nil Jll
 |kv::kvs,e::es,.cons h t=>by
  obtain ⟨vs,r,p,q⟩:=iN (P:=P) t;obtain ⟨h1,h2,h3⟩:=h;refine zAC ((kv.1,e.val)::vs) (.cons ⟨rfl,h3⟩ r) (.cons h1 rfl p) fun e' he=>?_;rcases zq11.mp he with z | z
  ·subst z;refine zn kv.1 h1 (h2.trans ?_);obtain ⟨k,v⟩:=kv
   cases k<;>rfl
  ·exact q e' z
theorem ow{X:Cx}{pins:List (Addr×Obj)}{s:Shared}{a:Addr}{kvs:List (Key×V)}{pr:Params}(hw:pr=X.w.params)(I:Inv X pins σ H s)(D:nB X.K pr a kvs):(a==sysModules)=false/\∃vs,KV kvs vs/\s.heap.DictOf (bB X.prog X.w) a vs:=by subst hw;obtain ⟨es,ep,hk,hd,nd,pr⟩:=D;obtain ⟨vs,r,p,q⟩:=iN (P:=X.prog) pr;refine ⟨hd,zn vs r (zBA _ es.toArray ep (I.kIn a _ hk) (zAB rfl rfl rfl) rfl (fun e he=>q e (by simpa using he)) p ?_)⟩;rw [<- r.keys];exact nd
def sj(kvs:List (Key×V))(ty:TE):TE:=fun σ H Q=>ty σ H fun y H1=>∃k,y=kV k/\Q ((ce kvs k).getD .non) H1
section
variable {X:Cx} {e:Expr} {x:Str} {p apos cpos:Pos} {ty:TE} {a:Addr} {kvs:List (Key×V)} {pr:Params}
theorem yY(hw:pr=X.w.params)(D:nB X.K pr a kvs)(hm:X.mg x=some (.ref a))(hg:Gl X x)(he:PE X e ty)(m:M1 X (.Name x p) "get" apos e cpos) (hdb:(x==("__debug__":Str))=false:=by kernel_rfl) :
  PE X (.Call (.Attribute (.Name x p) "get" apos) [e] [] cpos) (sj kvs ty):=by
 intro pins s σ H Q I h;refine wpAny_Call_method m.base m.few m.line PySem.F.plainAttrs_dict PySem.F.slot_dict_get PySem.F.type_dict_get (gW I hg hm ?_ hdb);obtain ⟨hd,vs,rel,dd⟩:=ow hw I D;refine zAB dd.typeIs (fun b q=>?_) ?_
 ·cases q
  obtain ⟨ob,_,_,h1,h2,_⟩:=dd;exact zn ob h1 h2.2.1
 rw [m.trees];refine Calls.callWith_builtin rfl (Calls.evalArgs_plain (Calls.spliced_cons (thn (he pins s σ H _ I h) fun iv s2 ⟨y,H2,I2,ry,k,ek,q2⟩=>Calls.spliced_nil ?_)));subst ek;obtain ⟨hd,vs,rel,dd⟩:=ow hw I2 D;refine call_meetsIn PySem.F.slot_dict_get dd.typeIs PySem.F.entry_dict_get (PySem.F.args_dict_get_2 _ _) (meets_dict_get (bB X.prog X.w) a (lO ry) hd) (zn _ dd.mapOf (zAA _ H2 (I2.tok _) ((rel.val k).getD (show RelV .non .none from rfl)) q2))
theorem x6(hw:pr=X.w.params)(D:nB X.K pr a kvs)(hm:X.mg x=some (.ref a))(hg:Gl X x)(he:XE X e ty)(m:M1 X (.Name x p) "get" apos e cpos) (hdb:(x==("__debug__":Str))=false:=by kernel_rfl) :
  XE X (.Call (.Attribute (.Name x p) "get" apos) [e] [] cpos) (sj kvs ty):=⟨yY hw D hm hg he.h m hdb⟩
theorem Cs{kvs:List (Key×V)}{ty:TE}{Q:VK}:sj kvs ty σ H Q=ty σ H fun y H1=>∃k,y=kV k/\Q ((ce kvs k).getD .non) H1:=rfl
end
end L2
namespace L2
section
variable {prog:Program} {w:World} {A:Around} {E:Value->Shared->Prop} {s:Shared}
open AutoSeq1 (wpAny_loadPart') in
end
section
variable {K:W.Frag} {a:Addr} {xs:List V}
end
section
variable {K:W.Frag} {a b:Addr} {H:Hp} {Q:VK}
theorem zq:ur K [.ref a] H Q=∃ns:List Int,SqL K H a (ns.map V.int)/\ns.length<64/\∀(l:Addr)(ns':List Int),H l=none->ns'.Perm ns->ns'.Pairwise (·<=·)->Q (.ref l) (upd H l (.lst (ns'.map V.int))):=propext ⟨by rintro ⟨_,ns,e,q⟩;cases e;exact ⟨ns,q⟩,by rintro ⟨ns,q⟩;exact zAE a ns rfl q⟩
theorem Ih:HW K [.ref a] H Q=∃bs:List Bool,SqL K H a (bs.map V.bl)/\Q (.bl (bs.any id)) H:=propext ⟨by rintro ⟨_,ns,e,q⟩;cases e;exact ⟨ns,q⟩,by rintro ⟨ns,q⟩;exact zAE a ns rfl q⟩
theorem Cg{y:V}:z8 K (.ref a) [y] H Q=∃xs,SqL K H a xs/\c7 y=true/\xs.all c7=true/\Q (.int (Bi y xs)) H:=propext ⟨by rintro ⟨_,xs,_,e1,e2,q⟩;cases e1;cases e2;exact ⟨xs,q⟩,by rintro ⟨xs,q⟩;exact zAN a xs y rfl rfl q⟩
end
end L2
namespace L2
def Cx.blkZ(X:Cx)(z0:Str)(N':List Str)(scope:Scope)(b:Bk):Cx:=
 {prog:=X.prog,w:=X.w,K:=X.K,mg:=X.mg,base:=X.base,A:=X.A,N:=N',s₀:=b.s₂,H₀:=b.H₂,env:=compEnvC scope ((z0,b.C+1)::cQ X.env.cells scope.names []) b.C X.env,outer:=X.stack,stack:=X.stack,ex:=b.fp,fn:=fun x=>x==z0,calm:=X.calm,pn:=[],xe:=fun _ _=>False}
theorem Es{X:Cx}{z0:Str}{N':List Str}{scope:Scope}{b:Bk}:(X.blkZ z0 N' scope b).K=X.K:=rfl
structure CompScZ(X:Cx)(z0:Str)(scope:Scope)(cns:List Str)(ci:List Nat):Prop where
 kind:scope.kind=.function
 names:∀y∈scope.names,y.2=.local->scope.names.lookup y.1=some .local
 free:∀y∈scope.names,y.2=.free->X.env.kindOf y.1=some .cell\/X.env.kindOf y.1=some .free
 cap:∀(j:Nat)x,cns[j]?=some x->∃i,ci[j]?=some i/\X.N[i]?=some x/\(x,NameKind.free)∈scope.names
 len:cns.length=ci.length
 noloc:∀y,(y,NameKind.free)∈scope.names->¬(relabel scope X.env).names.lookup y=some .local
 nofree:(z0,NameKind.free)∉scope.names
 seen:∀y,(relabel scope X.env).names.lookup y=some .cell\/(relabel scope X.env).names.lookup y=some .free->y=z0\/(y,NameKind.free)∈scope.names
 cells:∀n acc,cellsFrom n scope.names acc=(z0,n)::acc
 push:∀h,pushCells h scope.names=h.push {cls:=.type "cell",data:=.cell none}
section
variable {M:Model} {A:Around} {E:Value->Shared->Prop} {s:Shared}
theorem j6{scope:Scope}{globals:Addr}{closure:List (Str×Addr)}{qual:Str}{outer:Env}{z0:Str}{Q:Env->Shared->Prop}
  (hc:∀n acc,cellsFrom n scope.names acc=(z0,n)::acc) (hp:∀h,pushCells h scope.names=h.push {cls:=.type "cell",data:=.cell none})
  (hQ:Q {scope:=scope,locals:=s.heap.objs.size,globals:=globals,cells:=(z0,s.heap.objs.size+1)::closure,qual:=qual,func:=none,code:=outer.code,frame:=outer.frame,builtins:=outer.builtins}
   {s with heap:=(s.heap.push {cls:=.type "dict",data:=.dict #[]}).push {cls:=.type "cell",data:=.cell none}}) :
  wpAny M A (newFunctionEnv scope globals closure [] qual none .none (some outer)) Q E s:=by
 simp only [newFunctionEnv,Option.isSome_some,if_true];refine zq0 (wpAny_alloc ?_);refine zq0 (wpAny_layCells _ (fun name kind cells=>by cases hkc:kind==NameKind.cell<;>simp [hkc]) _ _ _ _ ?_);rw [hc,hp,show ({s with heap:=s.heap.push {cls:=.type "dict",data:=.dict #[]}}:Shared).heap.objs.size=s.heap.objs.size+1 from iI ..];refine zq0 ?_;rw [List.forIn_nil];exact zq3 (zq3 hQ)
end
theorem qR{X:Cx}{elt iter tgt:Expr}{ifs:List Expr}{pos:Pos}{scope:Scope}{z0:Str}{g:Bk->TG}{tt:Bk->TT}{te:Bk->TE}{tns cns:List Str}{ci:List Nat}{RR:Value->Addr->Result->Shared->Prop}{E:Value->Shared->Prop}
  {pins:List (Addr×Obj)} {σ:St} {H2:Hp} {s2:Shared} {it:Addr} {fp:List Addr} {tn:Nat->Heap->Prop} {J:It} {Q:Addr->Hp->Prop}
  (hc:X.calm=true) (S:CompScZ X z0 scope cns ci)
  (hg:∀bk:Bk,PG (X.blkZ z0 (".0"::(tns++cns)) scope bk) tgt (g bk))
  (ht:∀bk:Bk,vv (X.blkZ z0 (".0"::(tns++cns)) scope bk) ifs (tt bk))
  (he:∀bk:Bk,PE (X.blkZ z0 (".0"::(tns++cns)) scope bk) elt (te bk))
  (I2:Inv X pins σ H2 s2) (T:kI X.prog X.w X.K tgt J fp it tn) (st2:tn 0 s2.heap) (f2:∀b∈fp,iY X pins H2 b)
  (hcw:∀acc,H2 acc=none->∀bk:Bk,cw J (g bk) (tt bk) (te bk) tns.length ci σ acc (Q acc) (upd H2 acc (.lst [])))
  (fin:∀D C s5 H4 m,Inv X pins σ H4 s5->s5.heap.Ns C m->iY X pins H4 C->Q D H4->RR (.ref D) C (.ok .next) s5) :
  wpAny (model X.prog X.w) X.A (newList []) (fun acc s₃=>wpAny (model X.prog X.w) X.A (newFunctionEnv scope X.env.globals (cQ X.env.cells scope.names []) [] X.env.qual none .none (some X.env)) (fun cenv s₄=>codeAny (model X.prog X.w) X.A (.compStart (.ListComp elt [⟨tgt,iter,ifs,0⟩] scope pos) 0 (.ref it) acc {cenv with scope:=relabel scope X.env}) (RR acc cenv.locals) s₄) E s₃) E s2:=by
 have hfc:∀y∈scope.names,y.2=.free->∃c,X.env.cells.lookup y.1=some c:=fun y hy hk=>I2.ok.has _ (S.free y hy hk);have hsub:∀y c,(cQ X.env.cells scope.names []).lookup y=some c->X.env.cells.lookup y=some c:=gM hfc (fun y c e=>by simp at e);refine wpAny_newObj_type (j6 S.cells S.push ?_);dsimp only;generalize hH2:s2.heap.push {cls:=.type "list",dict:=none,data:=.seq ([]:List Value).toArray}=G2;have hCz:G2.objs.size=s2.heap.objs.size+1:=by rw [<- hH2,iI]
 have hns₁:((G2.push {cls:=.type "dict",data:=.dict #[]}).push {cls:=.type "cell",data:=.cell none}).Ns G2.objs.size (fun _=>none):=(Heap.Ns.new G2 (.type "dict")).keeps fun b o e=>bO _ e;have hcl₁:((G2.push {cls:=.type "dict",data:=.dict #[]}).push {cls:=.type "cell",data:=.cell none}).IsCell (G2.objs.size+1) none:=by refine zn ({cls:=.type "cell",data:=.cell none}) ?_ rfl;have:=cF (G2.push {cls:=.type "dict",data:=.dict #[]}) (o:={cls:=.type "cell",data:=.cell none}) rfl;rwa [iI] at this
 have keep₁:∀b o,G2.get? b=some o->((G2.push {cls:=.type "dict",data:=.dict #[]}).push {cls:=.type "cell",data:=.cell none}).get? b=some o:=fun b o e=>bO _ (bO _ e);have hsz₁:((G2.push {cls:=.type "dict",data:=.dict #[]}).push {cls:=.type "cell",data:=.cell none}).objs.size=G2.objs.size+2:=by rw [iI,iI]
 generalize hh₁:(G2.push {cls:=.type "dict",data:=.dict #[]}).push {cls:=.type "cell",data:=.cell none}=h₁ at hns₁ hcl₁ keep₁ hsz₁ ⊢;have hDC:s2.heap.objs.size≠G2.objs.size:=by rw [hCz];exact cf (x8 _)
 have below:∀b,b<s2.heap.objs.size->b≠G2.objs.size:=fun b hb=>by omega
 have old:∀b o,s2.heap.get? b=some o->h₁.get? b=some o:=fun b o e=>keep₁ b o (hH2 ▸ bO _ e);have hacc:h₁.get? s2.heap.objs.size=some {cls:=.type "list",dict:=none,data:=.seq ([]:List Value).toArray}:=keep₁ _ _ (hH2 ▸ cF _ rfl);have hnD:H2 s2.heap.objs.size=none:=I2.hok.fresh (zq6 _);have hnC:H2 G2.objs.size=none:=I2.hok.fresh Jlk;have hnE:H2 (G2.objs.size+1)=none:=I2.hok.fresh Jlk;obtain ⟨W,⟨m0,w0⟩,turn⟩:=hcw s2.heap.objs.size hnD ⟨G2.objs.size,fp,s2,H2⟩;have nlt:∀{b:Addr} {o:Obj},s2.heap.get? b=some o->b≠s2.heap.objs.size:=fun q=>cf (bH q);have fpl:∀b∈fp,b<s2.heap.objs.size:=fun b hb=>by obtain ⟨o,e,_⟩:=T.obj _ _ st2 b hb;exact bH e
 have clt:∀y c,(cQ X.env.cells scope.names []).lookup y=some c->c<s2.heap.objs.size:=fun y c e=>by obtain ⟨v,q⟩:=I2.cell y c (hsub y c e);exact q.lt
 have split:∀y c,((z0,G2.objs.size+1)::cQ X.env.cells scope.names []).lookup y=some c->(y=z0/\c=G2.objs.size+1)\/(y≠z0/\(cQ X.env.cells scope.names []).lookup y=some c):=fun y c e=>by
  rw [qG] at e
  cases hb:y==z0 with
  |true=>rw [hb] at e;cases e;exact .inl ⟨by simpa using hb,rfl⟩
  |false=>rw [hb] at e;exact .inr ⟨by simpa using hb,e⟩
 have hasC:∀y,((relabel scope X.env).names.lookup y=some .cell\/(relabel scope X.env).names.lookup y=some .free)->∃c,((z0,G2.objs.size+1)::cQ X.env.cells scope.names []).lookup y=some c:=fun y hk=>by
  rw [qG]
  cases hb:y==z0 with
  |true=>exact ⟨_,rfl⟩
  |false=>
   rcases S.seen y hk with z | z
   ·subst z;simp at hb
   ·exact dN z
 have ok:(X.blkZ z0 (".0"::(tns++cns)) scope ⟨G2.objs.size,fp,s2,H2⟩).Ok:={
  mod:=I2.ok.mod
  kind:=S.kind
  glob:=I2.ok.glob
  blt:=I2.ok.blt
  above:=by show s2.heap.objs.size<=G2.objs.size;omega
  inj:=fun y z c e1 e2=>by
   rcases split y c e1 with ⟨a1,b1⟩ | ⟨a1,b1⟩<;>rcases split z c e2 with ⟨a2,b2⟩ | ⟨a2,b2⟩
   ·rw [a1,a2]
   ·subst b1;have h9:(G2.objs.size+1:Nat)<s2.heap.objs.size:=clt _ _ b2;omega
   ·subst b2;have h9:(G2.objs.size+1:Nat)<s2.heap.objs.size:=clt _ _ b1;omega
   ·exact I2.ok.inj y z c (hsub y c b1) (hsub z c b2)
  has:=fun y hk=>hasC y hk
  cab:=fun y c e e2=>by
   show s2.heap.objs.size<=c;have e':(y==z0)=true:=e;rcases split y c e2 with ⟨a1,b1⟩ | ⟨a1,b1⟩
   ·subst b1;omega
   ·exact absurd (by simpa using e') a1
  hd:=I2.ok.hd
  frames:=I2.ok.frames
  stk:=.inl rfl
  exf:=fun b hb=>⟨below b (fpl b hb),fun y c e=>by
   rcases split y c e with ⟨a1,b1⟩ | ⟨a1,b1⟩
   ·subst b1;intro h8;subst h8;have h9:(G2.objs.size+1:Nat)<s2.heap.objs.size:=fpl _ hb;omega
   ·exact (f2 b hb).2.2.2.2.1 y c (hsub y c b1)⟩
  bs:=I2.bs
  bsz:=dX I2.ok.bsz I2.sz
  noex:=fun b o e hb=>by
   rcases (f2 b hb).2.2.2.1 with z | z
   ·exact I2.ok.noex b o e z
   ·exact absurd (fh (bH e) (dX I2.ok.bsz z)) (qD _)
  exfs:=fun b hb hf=>by
   rcases zq11.mp (I2.stkSub b hf) with z | z
   ·exact (f2 b hb).2.1 z
   ·exact (f2 b hb).2.2.1 z
  funs:=I2.stack
  frf:=I2.stkFree}
 have hokD:HOk X.prog X.w (upd H2 s2.heap.objs.size (.lst [])) h₁:=I2.hok.laid old (zq6 _) ⟨bT _,zAE ([]) 0 .nil hacc⟩;have clD:∀y c,((z0,G2.objs.size+1)::cQ X.env.cells scope.names []).lookup y=some c->c≠s2.heap.objs.size:=fun y c e=>by
  rcases split y c e with ⟨a1,b1⟩ | ⟨a1,b1⟩
  ·subst b1;omega
  ·exact cf (clt y c b1)
 have I3:Inv (X.blkZ z0 (".0"::(tns++cns)) scope ⟨G2.objs.size,fp,s2,H2⟩) [] (aK (List.replicate tns.length none) ci σ) (upd H2 s2.heap.objs.size (.lst [])) {s2 with heap:=h₁}:={
  ok:=ok
  os:=rfl
  bare:=I2.bare
  base:=⟨fun b o e n _ _=>old b o e,fun b o e n _ _=>⟨o.slots,old b o e⟩,fun b o e n _=>by rw [ao (nlt e)];exact n,fun b o e _=>⟨o,old b o e⟩,
   fun b ys e=>by rw [ao (am e hnD)];exact e,fun b o u e=>by rw [ao (am e hnD)];exact e,fun b ps e=>⟨#[],by rw [ao (am e hnD),Array.append_empty];exact e⟩⟩
  loc:=⟨_,hns₁,fun i y v e1 e2 e3=>by
   have e1':((".0":Str)::(tns++cns))[i]?=some y:=e1;unfold aK at e2
   cases i with
   |zero=>simp at e2
   |succ i=>
    rw [Ax] at e1' e2
    by_cases hi:i<tns.length
    ·rw [gH (by simpa using hi),AX,zq2 hi] at e2
     cases e2
    ·rw [gG Jlk] at e1';rw [gG (by simp;omega),vd] at e2;obtain ⟨q,hq,hN,hm⟩:=S.cap _ _ e1';rw [bq,hq] at e2;have e2':(σ[q]?).join=some v:=by simpa using e2
     have e4:σ[q]?=some (some v):=by
      cases z:σ[q]? with
      |none=>rw [z] at e2';cases e2'
      |some o=>rw [z] at e2';rw [show o=some v from e2']
     obtain ⟨m,hns,hl⟩:=I2.loc;have hvis:Vis X.env.scope y:=by
      rcases S.free (y,.free) hm rfl with z | z
      ·exact .inr (.inl z)
      ·exact .inr (.inr z)
     obtain ⟨u,ru,lk⟩:=hl q y v hN e4 hvis;refine zn u ru (.inr ?_);have hkk:X.env.kindOf y=some .cell\/X.env.kindOf y=some .free:=S.free (y,.free) hm rfl;have hyz:y≠z0:=fun e=>S.nofree (e ▸ hm);rcases lk with ⟨k1,_⟩ | ⟨_,c,hc1,hc2⟩
     ·rcases hkk with z | z<;>(rw [k1] at z;cases z)
     ·obtain ⟨c',hc'⟩:=dN (cells:=X.env.cells) (acc:=[]) hm;have ecc:c'=c:=by have:=hsub y c' hc';rw [hc1] at this;cases this;rfl
      subst ecc;have e3':Vis (relabel scope X.env) y:=e3;refine ⟨?_,zn c' ?_ ?_⟩
      ·rcases e3' with z | z | z
       ·exfalso;exact S.noloc y hm z
       ·exact .inl z
       ·exact .inr z
      ·show ((z0,G2.objs.size+1)::cQ X.env.cells scope.names []).lookup y=some c';rw [qG,beq_eq_false_iff_ne.mpr hyz];exact hc'
      ·exact hc2.keeps old⟩
  cell:=fun y c e=>by
   rcases split y c e with ⟨a1,b1⟩ | ⟨a1,b1⟩
   ·subst b1;exact ⟨_,hcl₁⟩
   ·obtain ⟨v,q⟩:=I2.cell y c (hsub y c b1);exact ⟨v,q.keeps old⟩
  free:=by show upd H2 s2.heap.objs.size (.lst []) G2.objs.size=none;rw [ao (Ne.symm hDC)];exact hnC
  freeC:=fun y c e=>by
   rw [ao (clD y c e)];rcases split y c e with ⟨a1,b1⟩ | ⟨a1,b1⟩
   ·subst b1;exact hnE
   ·exact I2.freeC y c (hsub y c b1)
  pin:=fun p hp=>by have hp':p∈([]:List (Addr×Obj))++[]:=hp;simp at hp'
  hok:=hokD
  len:=by show (aK _ ci σ).length=((".0":Str)::(tns++cns)).length;unfold aK;simp [S.len]}
 have st3:tn 0 h₁:=T.keep _ _ _ st2 fun b _ o e=>old b o e;have fr3:∀b∈fp,upd H2 s2.heap.objs.size (.lst []) b=none:=fun b hb=>by rw [ao (cf (fpl b hb))];exact (f2 b hb).1
 have stat:∀{H':Hp},(∀b∈fp,H' b=none)->∀b∈fp,iY (X.blkZ z0 (".0"::(tns++cns)) scope ⟨G2.objs.size,fp,s2,H2⟩) [] H' b:=fun hn b hb=>zAV (hn b hb) (below b (fpl b hb)) (ok.exfs b hb) (.inl hb) (fun y c e=>(ok.exf b hb).2 y c e) (fun p hp=>by have hp':p∈([]:List (Addr×Obj))++[]:=hp;simp at hp')
 have loop:∀s₃:Shared,s₃={s2 with heap:=h₁}->
   codeAny (model X.prog X.w) X.A (.compLoop (.ListComp elt [⟨tgt,iter,ifs,0⟩] scope pos) 0 (.ref it) (.ref s2.heap.objs.size) (compEnvC scope ((z0,G2.objs.size+1)::cQ X.env.cells scope.names []) G2.objs.size X.env))
    (RR (.ref s2.heap.objs.size) G2.objs.size) s₃:=by
  rintro s₃ rfl;refine gP (fun n s'=>∃(i:Nat)(os:List (Option V)) (ys:List V) (H':Hp),os.length=tns.length/\Inv (X.blkZ z0 (".0"::(tns++cns)) scope ⟨G2.objs.size,fp,s2,H2⟩) [] (aK os ci σ) H' s'/\tn i s'.heap/\(∀b∈fp,H' b=none)/\W i n ys H') ?_ m0 (zAM 0 _ ([]) _ Jll I3 st3 fr3 w0);rintro n s4 ⟨i,os,ys,H4,hos,I4,st4,fr4,w4⟩;rcases turn i n ys H4 w4 with ⟨stop,q⟩ | ⟨go,N,hN,step⟩
  ·refine thn (T.done (X.blkZ z0 (".0"::(tns++cns)) scope ⟨G2.objs.size,fp,s2,H2⟩) rfl rfl rfl hc i [] s4 _ H4 (fun _ _=>False) I4 (stat fr4) st4 stop) fun r s5 ⟨hr,I5⟩=>?_;subst hr;obtain ⟨m,hm,_⟩:=I5.loc;have fC:H4 G2.objs.size=none:=I5.free;have ub:Un (frs X.stack) fp H2 H4 s2.heap s5.heap:=I5.base;have IX:Inv X pins σ H4 s5:=I2.call' (s':=s5) (show s5.os=s2.os from I5.os) ub I5.hok I5.bare fun b hb=>zAF (f2 b hb).2.2.2.1 (f2 b hb).2.1 (f2 b hb).2.2.2.2.1 (f2 b hb).2.2.2.2.2
   exact fin _ _ s5 H4 m IX hm (I2.fpOk Jlk fC) q
  ·refine thn (T.item (X.blkZ z0 (".0"::(tns++cns)) scope ⟨G2.objs.size,fp,s2,H2⟩) rfl rfl rfl hc i [] s4 _ H4 (fun _ _=>False) I4 (stat fr4) st4 go) fun r s5 ⟨u,hr,h5⟩=>?_;subst hr;refine thn h5 fun _ s6 hhx=>?_;obtain ⟨y,H6,I6,r6,y6,st6,fr6⟩:=hhx;have I6':=I6.pinned (stat fr6) (T.obj _ _ st6);refine thn (hg _ _ s6 _ H6 y u _ I6' r6 (step y H6 os hos y6)) fun _ s7 ⟨σ7,H7,I7,⟨os',hos',e7⟩,q7⟩=>?_;subst e7;have back:∀{H9:Hp} {s9:Shared},Inv (X.blkZ z0 (".0"::(tns++cns)) scope ⟨G2.objs.size,fp,s2,H2⟩) ([]++gC fp s6.heap) (aK os' ci σ) H9 s9->tn (i+1) s9.heap/\∀b∈fp,H9 b=none:=fun {H9 s9} I9=>⟨T.keep _ _ _ st6 fun b hb ob e=>(I9.pin (b,ob) (cW _ (cW _ (cI hb e)))).1,fun b hb=>by obtain ⟨ob,e,d⟩:=T.obj _ _ st6 b hb;exact (I9.pin (b,ob) (cW _ (cW _ (cI hb e)))).2.1⟩
   refine thn (ht _ _ s7 _ H7 _ I7 q7) fun b s8 hhx=>?_;obtain ⟨H8,I8,q8⟩:=hhx
   cases b with
   |false=>
    rw [zq1 bz] at q8 ⊢;obtain ⟨m',hm',w8⟩:=hN _ _ q8;exact zn m' hm' (zAM (i+1) os' ys _ hos' I8.unpinned (back I8).1 (back I8).2 w8)
   |true=>rw [zq2 rfl] at q8 ⊢;refine thn (he _ _ s8 _ H8 _ I8 q8) fun zv s8 hhx=>?_;obtain ⟨z,H8,I8,rz,ha8,hl8,n8⟩:=hhx;obtain ⟨m',hm',w8⟩:=hN _ _ n8;refine thn (aX (X:=X.blkZ z0 (".0"::(tns++cns)) scope ⟨G2.objs.size,fp,s2,H2⟩) _ s8 _ H8 (.ref s2.heap.objs.size) [z] (.ref s2.heap.objs.size) [zv] (fun _ H9=>H9=upd H8 s2.heap.objs.size (.lst (ys++[z]))) I8 rfl (.cons rz .nil) (zAI _ ys z rfl rfl ha8 hl8 rfl)) fun _ s9 hhx=>?_;obtain ⟨_,H9,I9,_,e9⟩:=hhx;subst e9;exact zn m' hm' (zAM (i+1) os' (ys++[z]) _ hos' I9.unpinned (back I9).1 (back I9).2 w8)
 exact codeAny_compStart_list (loop _ rfl) (T.self _ 0 _ _ _ st3 (loop _ rfl))
theorem yL{X:Cx}{elt iter tgt:Expr}{ifs:List Expr}{pos:Pos}{scope:Scope}{z0:Str}{wi:TI}{g:Bk->TG}{tt:Bk->TT}{te:Bk->TE}{tns cns:List Str}{ci:List Nat}(hc:X.calm=true)(S:CompScZ X z0 scope cns ci)(hi:PI X tgt iter wi)
  (hg:∀bk:Bk,PG (X.blkZ z0 (".0"::(tns++cns)) scope bk) tgt (g bk))
  (ht:∀bk:Bk,vv (X.blkZ z0 (".0"::(tns++cns)) scope bk) ifs (tt bk))
  (he:∀bk:Bk,PE (X.blkZ z0 (".0"::(tns++cns)) scope bk) elt (te bk))
  (hs:∀v,foldedSetIterable iter X.env v=pure v:=by intro _;rfl) :
  PE X (.ListComp elt [⟨tgt,iter,ifs,0⟩] scope pos) (kx wi g tt te tns.length ci):=by
 intro pins s σ H Q I h;have hfc:∀y∈scope.names,y.2=.free->∃c,X.env.cells.lookup y.1=some c:=fun y hy hk=>I.ok.has _ (S.free y hy hk);rw [eval_ListComp];refine wpAny_comprehension_free (use:=none) rfl hs (eF hfc) S.kind S.names (thn (hi pins s σ H _ I h) fun v s1 h1=>thn h1 fun itv s2 h2=>?_);obtain ⟨it,fp,tn,J,H2,rfl,I2,T,st2,f2,hcw⟩:=h2;refine qR (RR:=fun acc C=>compPost (model X.prog X.w) X.A X.xe none (EP X pins σ Q) acc C) hc S hg ht he I2 T st2 f2 hcw fun D C s5 H4 m I5 hm fo q=>?_;refine zn m hm fun h' hs'=>zAA (.ref D) H4 ?_ rfl q;exact I5.turned (t':=s5.toks) (it:=C) (fun b o hb e=>(hs'.2 b hb).trans e) fo.1 fo.2.1 fo.2.2.2.1 fo.2.2.2.2.1 fo.2.2.2.2.2
def Hq(osc:Scope)(N:List Str)(z0:Str)(scope:Scope)(cns:List Str)(ci:List Nat):Bool:=
 scope.kind==.function&&scope.names.all (fun y=>y.2 != .local || scope.names.lookup y.1==some .local) &&
 scope.names.all (fun y=>y.2 != .free || (osc.names.lookup y.1==some .cell || osc.names.lookup y.1==some .free))&&jx N scope.names cns ci &&
 scope.names.all (fun y=>y.2 != .free || (wI scope osc).lookup y.1 != some .local)&&scope.names.all (fun y=>y.2 != .free || y.1 != z0)&&scope.names.all (fun y=>y.2 != .cell || y.1==z0)
theorem fT{osc:Scope}:∀{names:List (Str×NameKind)} {y:Str} {k:NameKind},(names.map fun (n,k)=>if (k==NameKind.free&&osc.kind==.function&&osc.names.lookup n==some .cell) then (n,NameKind.cell) else (n,k)).lookup y=some k->k=.cell\/k=.free->
  (y,NameKind.cell)∈names\/(y,NameKind.free)∈names
 | [],_,_,h,_=>by simp at h
 | (n,k0)::r,y,k,h,hk=>by
  rw [cm,qG] at h
  by_cases hf:(k0==NameKind.free&&osc.kind==.function&&osc.names.lookup n==some .cell)=true
  ·simp only [hf,if_true] at h;have k0f:k0=.free:=by have:=hf;simp only [Bool.and_eq_true] at this;simpa using this.1.1
   split at h
   ·next hq=>
    have:y=n:=by simpa using hq
    subst this;subst k0f;exact .inr cN
   ·exact (fT h hk).imp (b7 _) (b7 _)
  ·simp only [hf] at h
   split at h
   ·next hq=>
    have:y=n:=by simpa using hq
    subst this;have e:k0=k:=by simpa using h
    subst e;rcases hk with z | z
    ·subst z;exact .inl cN
    ·subst z;exact .inr cN
   ·exact (fT h hk).imp (b7 _) (b7 _)
theorem CompScZ.of{X:Cx}{z0:Str}{scope:Scope}{cns:List Str}{ci:List Nat}(h:Hq X.env.scope X.N z0 scope cns ci=true)
  (hc:∀n acc,cellsFrom n scope.names acc=(z0,n)::acc) (hp:∀h,pushCells h scope.names=h.push {cls:=.type "cell",data:=.cell none}):CompScZ X z0 scope cns ci:=by
 unfold Hq at h;rw [ee,ee,ee,ee,ee,ee] at h;obtain ⟨⟨⟨⟨⟨⟨h1,h3⟩,h4⟩,h5⟩,h6⟩,h7⟩,h8⟩:=h;obtain ⟨l,r⟩:=il h5;refine ⟨by simpa using h1,fun y hy hk=>?_,fun y hy hk=>?_,r,l,fun y hy z=>?_,fun hm=>?_,fun y hy=>?_,hc,hp⟩
 ·have:=zq48.mp h3 y hy;rw [ny] at this;rcases this with q | q
  ·exact absurd hk (by simpa using q)
  ·simpa using q
 ·have:=zq48.mp h4 y hy;rw [ny,ny] at this;rcases this with q | q | q
  ·exact absurd hk (by simpa using q)
  ·exact .inl (show X.env.scope.names.lookup y.1=_ by simpa using q)
  ·exact .inr (show X.env.scope.names.lookup y.1=_ by simpa using q)
 ·have:=zq48.mp h6 _ hy;rw [ny] at this;rcases this with q | q
  ·simp at q
  ·have z':(wI scope X.env.scope).lookup y=some .local:=z;have q':((wI scope X.env.scope).lookup y != some .local)=true:=q;rw [z'] at q';exact absurd q' Jkm
 ·have:=zq48.mp h7 _ hm;simp at this
 ·have key:(y,NameKind.cell)∈scope.names\/(y,NameKind.free)∈scope.names:=by
   rcases hy with z | z
   ·exact fT (osc:=X.env.scope) z (.inl rfl)
   ·exact fT (osc:=X.env.scope) z (.inr rfl)
  rcases key with z | z
  ·have:=zq48.mp h8 _ z
   left;simpa using this
  ·exact .inr z
theorem wW{X:Cx}{elt iter tgt:Expr}{ifs:List Expr}{pos:Pos}{scope:Scope}{z0:Str}{wi:TI}{g:Bk->TG}{tt:Bk->TT}{te:Bk->TE}{tns cns:List Str}{ci:List Nat}(hc:X.calm=true)(S:CompScZ X z0 scope cns ci)(hi:XI X tgt iter wi)
  (hg:∀bk:Bk,XG (X.blkZ z0 (".0"::(tns++cns)) scope bk) tgt (g bk))
  (ht:∀bk:Bk,xn (X.blkZ z0 (".0"::(tns++cns)) scope bk) ifs (tt bk))
  (he:∀bk:Bk,XE (X.blkZ z0 (".0"::(tns++cns)) scope bk) elt (te bk))
  (hs:∀v,foldedSetIterable iter X.env v=pure v:=by intro _;rfl) :
  XE X (.ListComp elt [⟨tgt,iter,ifs,0⟩] scope pos) (kx wi g tt te tns.length ci):=⟨yL hc S hi.h (fun bk=>(hg bk).h) (fun bk=>(ht bk).h) (fun bk=>(he bk).h) hs⟩
end L2
namespace L2
variable {a0 a1 a10 a11 a12 a13 a14 a15 a2 a3 a4 a5 a6 a7 a8 a9:Option V} {i:Int} {r:St} {x:V}
def CB:Nat->St->Option V
 |0,o::_=>o
 |n+1,_::r=>CB n r
 |_,[]=>none
theorem pU:∀{n:Nat} {σ:St} {v:V},CB n σ=some v->σ[n]?=some (some v)
 |0,o::_,v,h=>by rw [show CB 0 (o::_)=o from rfl] at h;rw [h];rfl
 |n+1,_::r,v,h=>by rw [Ax];exact pU h
 |0,[],_,h=>by cases h
 |_+1,[],_,h=>by cases h
def di(i:Nat):TE:=fun σ H Q=>match CB i σ with
 |some v=>Q v H
 |none=>False
theorem CQ{i:Nat}{σ:St}{H:Hp}{Q:VK}(h:di i σ H Q):GW i σ H Q:=by
 unfold di at h
 split at h
 ·next v e=>exact zn v (pU e) h
 ·exact h.elim
theorem yqv{X:Cx}(i:Nat){x:Str}{pos:Pos}(hv:Vis X.env.scope x)(hN:X.N[i]?=some x:=by rfl)(hd:(x==("__debug__":Str))=false:=by kernel_rfl) (hcd:(x==("__classdict__":Str))=false:=by kernel_rfl):XE X (.Name x pos) (di i):=
 ⟨fun pins s σ H Q I h=>qv i hv hN hd hcd pins s σ H Q I (CQ h)⟩
def yI0(g:Int->Int->V):R2:=fun x y H Q=>match x,y with
 | .int i,.int j=>Q (g i j) H
 |_,_=>False
def yI(C:Int->Int->Prop)(g:Int->Int->V):R2:=fun x y H Q=>match x,y with
 | .int i,.int j=>C i j/\Q (g i j) H
 |_,_=>False
def yU(g:Int->V):V->Hp->VK->Prop:=fun x H Q=>match x with
 | .int i=>Q (g i) H
 |_=>False
theorem iF{g:Int->Int->V}{y:V}{H:Hp}{Q:VK}(h:yI0 g x y H Q):rI0 g x y H Q:=by
 unfold yI0 at h
 split at h
 ·exact zAA _ _ rfl rfl h
 ·exact h.elim
theorem mf{C:Int->Int->Prop}{g:Int->Int->V}{y:V}{H:Hp}{Q:VK}(h:yI C g x y H Q):rI C g x y H Q:=by
 unfold yI at h
 split at h
 ·exact zAA _ _ rfl rfl h
 ·exact h.elim
theorem Jb{g:Int->V}{H:Hp}{Q:VK}(h:yU g x H Q):rU g x H Q:=by
 unfold yU at h
 split at h
 ·exact zn _ rfl h
 ·exact h.elim
section
variable {X:Cx}
theorem OpR.le{f:Value->Value->Sem Value}{r r':R2}(h:OpR X f r)(le:∀{x y:V} {H:Hp} {Q:VK},r' x y H Q->r x y H Q):OpR X f r':=fun pins s σ H x y v u Q I rx ry q=>h pins s σ H x y v u Q I rx ry (le q)
theorem bW:OpR X (binaryOp .Add) (yI0 fun i j=>.int (i+j)):=OpR.le F2 iF
theorem jq:OpR X (binaryOp .Sub) (yI0 fun i j=>.int (i-j)):=OpR.le F8 iF
theorem ff:OpR X (binaryOp .Mult) (yI CMul fun i j=>.int (i * j)):=OpR.le F5 mf
theorem bc:OpR X (binaryOp .Mod) (yI (fun _ j=>0<j) fun i j=>.int (i % j)):=OpR.le F4 mf
theorem v8:OpR X (binaryOp .Pow) (yI xj fun i j=>.int (i ^ j.toNat)):=OpR.le F6 mf
theorem nu:OpR X (binaryOp .LShift) (yI xj fun i j=>.int (i * 2 ^ j.toNat)):=OpR.le F7 mf
theorem iH:OpR X (compareOp .Lt) (yI0 fun i j=>.bl (decide (i<j))):=OpR.le HS iF
theorem Hj:OpR X (compareOp .LtE) (yI0 fun i j=>.bl (decide (i<=j))):=OpR.le HR iF
theorem iG:OpR X (compareOp .Gt) (yI0 fun i j=>.bl (decide (j<i))):=OpR.le HQ iF
theorem Hi:OpR X (compareOp .GtE) (yI0 fun i j=>.bl (decide (j<=i))):=OpR.le HP iF
theorem ba:OpR X (binaryOp .FloorDiv) (yI CDivB fun i j=>.int (i / j)):=OpR.le yB mf
theorem Ap:OpR X (binaryOp .Mult) (yI IntMulOk fun i j=>.int (i * j)):=OpR.le C0 mf
theorem ii:UnR X (unaryOp .USub) (yU fun i=>.int (-i)):=fun pins s σ H x v Q I rx q=>Hd pins s σ H x v Q I rx (Jb q)
end
section
variable {H:Hp} {Q:VK}
theorem K0{v:V}:di 0 (some v::r) H Q=Q v H:=rfl
theorem K1{v:V}:di 1 (a0::some v::r) H Q=Q v H:=rfl
theorem K2{v:V}:di 2 (a0::a1::some v::r) H Q=Q v H:=rfl
theorem K3{v:V}:di 3 (a0::a1::a2::some v::r) H Q=Q v H:=rfl
theorem K4{v:V}:di 4 (a0::a1::a2::a3::some v::r) H Q=Q v H:=rfl
theorem K5{v:V}:di 5 (a0::a1::a2::a3::a4::some v::r) H Q=Q v H:=rfl
theorem K6{v:V}:di 6 (a0::a1::a2::a3::a4::a5::some v::r) H Q=Q v H:=rfl
theorem K7{v:V}:di 7 (a0::a1::a2::a3::a4::a5::a6::some v::r) H Q=Q v H:=rfl
theorem K8{v:V}:di 8 (a0::a1::a2::a3::a4::a5::a6::a7::some v::r) H Q=Q v H:=rfl
theorem K9{v:V}:di 9 (a0::a1::a2::a3::a4::a5::a6::a7::a8::some v::r) H Q=Q v H:=rfl
theorem Jc{v:V}:di 10 (a0::a1::a2::a3::a4::a5::a6::a7::a8::a9::some v::r) H Q=Q v H:=rfl
theorem Jd{v:V}:di 11 (a0::a1::a2::a3::a4::a5::a6::a7::a8::a9::a10::some v::r) H Q=Q v H:=rfl
theorem Je{v:V}:di 12 (a0::a1::a2::a3::a4::a5::a6::a7::a8::a9::a10::a11::some v::r) H Q=Q v H:=rfl
theorem Jf{v:V}:di 13 (a0::a1::a2::a3::a4::a5::a6::a7::a8::a9::a10::a11::a12::some v::r) H Q=Q v H:=rfl
theorem Jg{v:V}:di 14 (a0::a1::a2::a3::a4::a5::a6::a7::a8::a9::a10::a11::a12::a13::some v::r) H Q=Q v H:=rfl
theorem Jh{v:V}:di 15 (a0::a1::a2::a3::a4::a5::a6::a7::a8::a9::a10::a11::a12::a13::a14::some v::r) H Q=Q v H:=rfl
theorem Ji{v:V}:di 16 (a0::a1::a2::a3::a4::a5::a6::a7::a8::a9::a10::a11::a12::a13::a14::a15::some v::r) H Q=Q v H:=rfl
theorem Jj{v:V}{a16:Option V}:di 17 (a0::a1::a2::a3::a4::a5::a6::a7::a8::a9::a10::a11::a12::a13::a14::a15::a16::some v::r) H Q=Q v H:=rfl
theorem Jk{v:V}{a16:Option V}{a17:Option V}:di 18 (a0::a1::a2::a3::a4::a5::a6::a7::a8::a9::a10::a11::a12::a13::a14::a15::a16::a17::some v::r) H Q=Q v H:=rfl
theorem JZ{g:Int->Int->V}{j:Int}:yI0 g (.int i) (.int j) H Q=Q (g i j) H:=rfl
theorem y_I{C:Int->Int->Prop}{g:Int->Int->V}{j:Int}:yI C g (.int i) (.int j) H Q=(C i j/\Q (g i j) H):=rfl
theorem y_U{g:Int->V}:yU g (.int i) H Q=Q (g i) H:=rfl
end
end L2
end
set_option maxHeartbeats 4000000
namespace FA
open PySem L2 PyProof.Rows
def dQ(c k:Int):Int:=
 if 10 ^ Int.toNat 40<=c then (c-10 ^ Int.toNat 40) / (1 * 2 ^ (100 * (k % 60)).toNat) % (1 * 2 ^ Int.toNat 100)
 else ((c * c+3 * c+7919 * k+1) * 48271 % 2147483629 * ((c * c+3 * c+7919 * k+1) * 48271 % 2147483629)+7) % 2147483587
theorem oV(c k:Int):0<=dQ c k:=by
 unfold dQ
 split
 ·exact gc _ Jkm
 ·exact gc _ Jkm
theorem CDivB.pow{i:Int}{n:Nat}(h:n<9000):CDivB i (1 * 2 ^ n):=by rw [vi];refine ⟨Int.pow_pos Jkm,?_⟩;rw [Int.natAbs_pow];show (2 ^ n).log2<9000;rw [Nat.log2_two_pow];exact h
theorem BI{c:Int}(h:Builtin.Int.intBits c<=2 ^ 20):IntMulOk c c:=mulOk_of_bits h h Jkm
def ltr(z:Int):Nat:=97+(z % 26).toNat
def Jy(m pl k:Int)(j:Nat):Int:=m / 36+j * j+(if decide ((j:Int)=pl)=true then 1 else 0) * k
def nm(m pl k:Int):Nat->Str
 |0=>""
 |j+1=>nm m pl k j++⟨#[ltr (Jy m pl k j)]⟩
theorem yj(m pl k:Int):∀j,(nm m pl k j).length=j
 |0=>by show ("":Str).length=0;decide +kernel
 |j+1=>by rw [nm,strLen_append,yj m pl k j];rfl
def nms(m:Int)(n:Nat):List Str:=(List.range n).map fun (k:Nat)=>nm m (m / 6 % (1+m % 6)) k (1+m % 6).toNat
theorem yk(m:Int)(n:Nat):nms m (n+1)=nms m n++[nm m (m / 6 % (1+m % 6)) n (1+m % 6).toNat]:=by unfold nms;rw [xc,cq,List.map_singleton]
def Jw:List Str:=["tell","end","if","in","box","while","else","plus"]
def cJ(c:Int):List Str:=if dQ c 3 / 1000 % 5=1 then Jw else nms (dQ c 3) 8
theorem HH:∀n:Nat,n<26->atI ("abcdefghijklmnopqrstuvwxyz":Str).cps.toList (n:Int)=some (97+n):=by decide +kernel
theorem ES(z:Int):atI ("abcdefghijklmnopqrstuvwxyz":Str).cps.toList (z % 26)=some (ltr z):=by have h0:0<=z % 26:=gc _ Jkm;have h1:z % 26<26:=kF _ Jkm;unfold ltr;obtain ⟨n,hn⟩:=xf h0;rw [hn];exact HH n Jlk
def j7(m:Int)(ns:List Str):Str:=ns.getD (m % (ns.length:Int)).toNat ""
theorem mS{m:Int}{ns:List Str}(h:¬ns=[]):atI (ns.map V.str) (m % (ns.length:Int))=some (.str (j7 m ns)):=by
 have hl:0<ns.length:=zq62.mpr h;have h0:0<=m % (ns.length:Int):=gc _ Jlk;have h1:m % (ns.length:Int)<ns.length:=kF _ Jlk;unfold j7;obtain ⟨n,hn⟩:=xf h0;rw [hn];refine aJ ?_;have hn':n<ns.length:=by omega
 rw [bq,kE,cn,zq5 hn'];rfl
theorem hX{m:Int}{ns:List Str}(h:¬ns=[]):j7 m ns∈ns:=by
 have hl:0<ns.length:=zq62.mpr h;have h0:0<=m % (ns.length:Int):=gc _ Jlk;have h1:m % (ns.length:Int)<ns.length:=kF _ Jlk;unfold j7;have hn':(m % (ns.length:Int)).toNat<ns.length:=by omega
 rw [cn,zq5 hn'];exact dH hn'
def mQ(m:Int)(ns:List Str)(w:Int):V:=if 0<m % 3/\¬ns=[] then .str (j7 (m / 3) ns) else .int (m / 3 % (1 * 2 ^ w.toNat))
def opsL:List Str:=["plus","less","and","or","xor","below","same"]
def oq(m:Int)(ns:List Str)(w:Int):List V:=
 if m % 9=0\/ns=[] then [.str "tell",mQ (m / 16) ns w]
 else if m % 9=1 then [.str "copy",.str (j7 (m / 7) ns),mQ (m / 16) ns w]
 else [.str (opsL.getD (m % 9-2).toNat ""),.str (j7 (m / 7) ns),mQ (m / 16) ns w,mQ (m / 1009) ns w]
theorem C2:∀n:Nat,n<7->atI [V.str "plus",V.str "less",V.str "and",V.str "or",V.str "xor",V.str "below",V.str "same"] (n:Int)=some (.str (opsL.getD n "")):=by decide +kernel
theorem F9{j:Int}(h0:0<=j)(h7:j<7):atI [V.str "plus",V.str "less",V.str "and",V.str "or",V.str "xor",V.str "below",V.str "same"] j=some (.str (opsL.getD j.toNat "")):=by obtain ⟨n,rfl⟩:=xf h0;rw [kE];exact C2 n (Int.ofNat_lt.mp h7)
end FA
namespace L2
open PySem PyProof.Rows
variable {H H':Hp}
theorem jI{A:Around}{k n:Nat}(h:n<=64)(hr:Room k A):A.units+n<cLine:=B1 (vg h _) hr.units
theorem qc{α β:Type}{f:Nat->α->β}{xs:List α}{i:Nat}{x:α}(h:xs[i]?=some x):(xs.take (i+1)).mapIdx f=(xs.take i).mapIdx f++[f i x]:=by obtain ⟨hl,e⟩:=zq7.mp h;rw [df hl,e,List.mapIdx_append,dY,sM (va hl)];simp
theorem Bm{xs:List V}{k:Int}(h:0<=k):g8 xs none (some k)=xs.take k.toNat:=by
 obtain ⟨n,rfl⟩:=xf h;unfold g8;rw [HT.pG,HT.mW,Ay,kE,qo]
 by_cases hn:n<=xs.length
 ·rw [sM hn]
 ·rw [Az Jlk,ef,qH Jlk]
theorem oe{xs:List V}{k l:Int}(h:0<=k)(h2:0<=l):g8 xs (some k) (some l)=(xs.take l.toNat).drop k.toNat:=by
 obtain ⟨n,rfl⟩:=xf h;obtain ⟨m,rfl⟩:=xf h2;unfold g8;rw [HT.mW,HT.mW,kE,kE]
 by_cases hn:n<=xs.length
 ·rw [sM hn]
  by_cases hm:m<=xs.length
  ·rw [sM hm,List.drop_take]
  ·rw [Az Jlk,qH Jll,qH Jlk]
 ·rw [Az (show xs.length<=n by omega),E8 (zq6 _),E8 (by rw [dY];omega)];simp
section
variable {K:W.Frag} {te:TE} {ci:List Nat} {σ:St} {acc:Addr} {Q:Hp->Prop} {H1:Hp} {a:Addr} {xs:List V}
theorem gu{α:Type}(xs:List α):xs.filter (fun _=>true)=xs:=by simp
theorem Bf(f:V->V)(hz:xs.length<=sizeLine)(hl:SqL K H1 a xs)(hacc:H1 acc=none)(hf:∀x∈xs,∀H Q',Same H1 H->Q' (f x) H->te (aK [some x] ci σ) H Q')
  (q:Q (upd H1 acc (.lst (xs.map f)))):cw (Itl K a) (bD 1) kA te 1 ci σ acc Q (upd H1 acc (.lst [])):=
 xF (fun _=>true) f hz hl hacc (fun _ _ _ _ _ h=>h) (fun x hm H Q' s _ h=>hf x hm H Q' s h) (by rw [gu];exact q)
end
structure TSame(H H':Hp):Prop where
 tup:∀b xs,H b=some (.tup xs)->H' b=some (.tup xs)
 frz:∀b o u,H b=some (.frz o u)->H' b=some (.frz o u)
theorem Same.ts(s:Same H H'):TSame H H':=⟨fun b xs e=>s b _ e,fun b o u e=>s b _ e⟩
theorem TSame.trans{H1 H2:Hp}(a:TSame H H1)(b:TSame H1 H2):TSame H H2:=⟨fun c xs e=>b.tup c xs (a.tup c xs e),fun c o u e=>b.frz c o u (a.frz c o u e)⟩
theorem TSame.updL{p:Addr}{ys:List V}{o:HO}(h:H p=some (.lst ys)):TSame H (upd H p o):=
 ⟨fun b xs e=>by rw [ao (du e h (by intro z;cases z))];exact e,fun b o u e=>by rw [ao (du e h (by intro z;cases z))];exact e⟩
theorem TSame.seqT{K:W.Frag}{a:Addr}{xs:List V}(e:TSame H H')(h:SqT K H a xs):SqT K H' a xs:=by
 rcases h with (h | ⟨o,h⟩) | h
 ·exact .inl (.inl (e.tup _ _ h))
 ·exact .inl (.inr ⟨o,e.frz _ _ _ h⟩)
 ·exact .inr h
def DeedV(K:W.Frag)(H:Hp)(x:V)(d:FB.Deed):Prop:=d.fine/\∃q,x=.ref q/\SqT K H q d.vs
theorem DeedV.ts{K:W.Frag}{x:V}{d:FB.Deed}(s:TSame H H')(h:DeedV K H x d):DeedV K H' x d:=⟨h.1,let ⟨q,e,z⟩:=h.2;(zn q e (s.seqT z))⟩
abbrev DeedsV (K:W.Frag) (H:Hp):List V->List FB.Deed->Prop:=Paired (DeedV K H)
theorem DeedsV.ts{K:W.Frag}{xs:List V}{ds:List FB.Deed}(s:TSame H H')(h:DeedsV K H xs ds):DeedsV K H' xs ds:=h.mono fun _ _ z=>z.ts s
end L2
namespace FA
open PySem L2
def pe(m:Int)(ns:List Str)(w:Int):FB.Opd:=if 0<m % 3/\¬ns=[] then .box (j7 (m / 3) ns) else .word (m / 3 % (1 * 2 ^ w.toNat))
theorem rM{m:Int}{ns:List Str}{w:Int}:(pe m ns w).v=mQ m ns w:=by
 unfold pe mQ
 split<;>rfl
def eX(m:Int)(ns:List Str)(w:Int):FB.Deed:=
 if m % 9=0\/ns=[] then .tell (pe (m / 16) ns w)
 else if m % 9=1 then .copy (j7 (m / 7) ns) (pe (m / 16) ns w)
 else .op (opsL.getD (m % 9-2).toNat "") (j7 (m / 7) ns) (pe (m / 16) ns w) (pe (m / 1009) ns w)
theorem vI{m:Int}{ns:List Str}{w:Int}:(eX m ns w).vs=oq m ns w:=by
 unfold eX oq
 split
 ·simp only [FB.Deed.vs,rM]
 ·split
  ·simp only [FB.Deed.vs,rM]
  ·simp only [FB.Deed.vs,rM]
theorem iM{m:Int}{ns:List Str}{w:Int}:(eX m ns w).fine:=by
 unfold eX
 split
 ·trivial
 ·split
  ·trivial
  ·show opsL.getD (m % 9-2).toNat ""∈FB.opsL;have h0:0<=m % 9:=gc _ Jkm;have h1:m % 9<9:=kF _ Jkm;have h:∀n:Nat,n<7->opsL.getD n ""∈FB.opsL:=by decide +kernel
   by_cases h2:m % 9-2<7
   ·exact h _ Jlk
   ·exact absurd h1 Jlk
end FA
namespace FL
open PySem L2 PyProof.Rows
def zw(n:Nat):List Int:=(List.range n).map fun i:Nat=>(i:Int)
def sQ(b:List Int):Prop:=b≠[]/\b.Pairwise (·<=·)
instance (b:List Int):Decidable (sQ b):=by unfold sQ;infer_instance
structure B4(n:Nat)(bss:List (List Int)):Prop where
 good:∀b∈bss,sQ b
 perm:bss.flatten.Perm (zw n)
instance (n:Nat) (bss:List (List Int)):Decidable (B4 n bss):=decidable_of_iff ((∀b∈bss,sQ b)/\bss.flatten.Perm (zw n)) ⟨fun ⟨a,b⟩=>⟨a,b⟩,fun h=>⟨h.good,h.perm⟩⟩
theorem ml{xs ys:List Int}(hl:xs.length=ys.length):((List.range xs.length).all fun j=>decide (xs[j]?=ys[j]?))=decide (xs=ys):=by
 rw [eh,zq48,eo]
 constructor
 ·intro h;apply nz;intro j
  by_cases hj:j<xs.length
  ·exact of_decide_eq_true (h j (zq33.mpr hj))
  ·rw [gf Jlk,gf Jlk]
 ·rintro rfl j _;exact bC rfl
theorem mx{i j:Int}:eqV (.int i) (.int j)=decide (i=j):=by first | rfl | (unfold eqV;simp)
theorem uD{K:W.Frag}{H:Hp}{n:Nat}{a b:Addr}{xs ys:List Int}(ha:SqL K H a (xs.map V.int))(hb:SqL K H b (ys.map V.int)):Rq K H n (.ref a) (.ref b) (decide (xs=ys)):=by
 by_cases hl:xs.length=ys.length
 ·have z:=Rq.lists (n:=n) (fun j=>decide (xs[j]?=ys[j]?)) ha hb (by rw [zq4,zq4];exact hl) fun j x y hx hy=>by
   rw [bq] at hx hy;obtain ⟨i,hi,rfl⟩:=zq47.mp hx;obtain ⟨k,hk,rfl⟩:=zq47.mp hy;have e:decide (xs[j]?=ys[j]?)=eqV (.int i) (.int k):=by rw [hi,hk,mx];simp
   rw [e];exact .flat rfl rfl
  rw [zq4,ml hl] at z;exact z
 ·rw [bh (fun e=>hl (congrArg List.length e))];exact .lens ha hb (by rw [zq4,zq4];exact hl)
theorem mF{n k:Nat}(h:k<n):ixN n (k:Int)=some k:=by unfold ixN;rw [zq2 Jlk,zq2 Jlk,kE]
end FL
namespace FL
open PySem L2 PyProof.Rows
theorem Paired.mem{α β:Type}{F:α->β->Prop}:∀{l₁:List α} {l₂:List β},Paired F l₁ l₂->∀a∈l₁,∃b∈l₂,F a b
 |_,_,.nil=>by intro a h;cases h
 |_,_,.cons h t=>by
  intro a hm;rcases zq11.mp hm with e | e
  ·subst e;exact zn _ (cN ..) h
  ·obtain ⟨b,hb,hf⟩:=Paired.mem t a e;exact zn b (b7 _ hb) hf
theorem Paired.imp{α β:Type}{F G:α->β->Prop}:∀{l₁:List α} {l₂:List β},Paired F l₁ l₂->(∀a∈l₁,∀b∈l₂,F a b->G a b)->Paired G l₁ l₂
 |_,_,.nil,_=>.nil
 |_,_,.cons h t,hi=>.cons (hi _ (cN ..) _ (cN ..) h) (Paired.imp t fun a ha b hb=>hi a (b7 _ ha) b (b7 _ hb))
theorem Paired.snoc{α β:Type}{F:α->β->Prop}{a:α}{b:β}(hf:F a b):∀{l₁:List α} {l₂:List β},Paired F l₁ l₂->Paired F (l₁++[a]) (l₂++[b])
 |_,_,.nil=>.cons hf .nil
 |_,_,.cons h t=>.cons h (Paired.snoc hf t)
theorem Paired.put{α β:Type}{F:α->β->Prop}{a:α}{b:β}(hf:F a b):∀{l₁:List α} {l₂:List β} (i:Nat),Paired F l₁ l₂->Paired F (l₁.set i a) (l₂.set i b)
 |_,_,_,.nil=>.nil
 |_,_,0,.cons h t=>.cons hf t
 |_,_,i+1,.cons h t=>.cons h (Paired.put hf i t)
theorem Paired.of_get{α β:Type}{F:α->β->Prop}:∀{l₁:List α} {l₂:List β},l₁.length=l₂.length->(∀(i:Nat)a b,l₁[i]?=some a->l₂[i]?=some b->F a b)->Paired F l₁ l₂
 | [],[],_,_=>.nil
 | [],_::_,h,_=>by simp at h
 |_::_,[],h,_=>by simp at h
 |a::l₁,b::l₂,h,f=>.cons (f 0 a b rfl rfl) (Paired.of_get (by simpa using h) fun i x y hx hy=>f (i+1) x y hx hy)
section
variable {K:W.Frag} {te:TE} {ci:List Nat} {σ:L2.St} {acc:Addr} {Q:Hp->Prop} {H1:Hp}
end
section
variable {K:W.Frag} {H:Hp}
end
end FL
namespace L2
open PySem PySem.Spec PyProof.Rows
section
variable {K:W.Frag} {tt:TT} {te:TE} {ci:List Nat} {σ:St} {acc:Addr} {Q:Hp->Prop} {H1:Hp} {a:Addr} {xs:List V}
theorem nX(p:V->Bool)(f:V->V)(hz:xs.length<=sizeLine)(hl:SqL K H1 a xs)(hacc:H1 acc=none)
  (hp:∀x∈xs,∀H Q',Same H1 H->(∀H',Same H H'->Q' (p x) H')->tt (aK [some x] ci σ) H Q') (hf:∀x∈xs,∀H Q',Same H1 H->p x=true->(∀H',Same H H'->Q' (f x) H')->te (aK [some x] ci σ) H Q')
  (q:∀H,Same H1 H->H acc=some (.lst ((xs.filter p).map f))->Q H):cw (Itl K a) (bD 1) tt te 1 ci σ acc Q (upd H1 acc (.lst [])):=by
 refine cP (fun i ys H=>ys=((xs.take i).filter p).map f/\Same H1 H/\H acc=some (.lst ys)) (zAB Jll (Same.upd hacc) ae) (fun i ys H _ h=>h.2.1.seq hl) ?_ ?_
 ·rintro i x ys H os hi ho ⟨rfl,sm,ha⟩;have hm:=bg hi;have e:(aK os ci σ).set 1 (some x)=aK [some x] ci σ:=by
   match os,ho with
   | [o],_=>rfl
  show (∃os',os'.length=1/\(aK os ci σ).set 1 (some x)=aK os' ci σ)/\tt ((aK os ci σ).set 1 (some x)) H _;rw [e];refine ⟨zn ([some x]) rfl rfl,hp x hm _ _ sm fun H2 s2=>?_⟩
  cases hb:p x with
  |true=>
   rw [zq2 rfl];refine hf x hm _ _ (sm.trans s2) hb fun H3 s3=>zAJ (s3 _ _ (s2 _ _ ha)) (oA hi hz) ?_ (((sm.trans s2).trans s3).updM hacc) ae
   rw [cG hi,zq2 hb]
  |false=>rw [zq1 bz];refine zAB ?_ (sm.trans s2) (s2 _ _ ha);rw [cG hi,zq1 (by rw [hb];exact bz),g9]
 ·rintro ys H ⟨rfl,sm,ha⟩;rw [ef] at ha;exact q H sm ha
theorem er(p:Nat->Bool)(f:Nat->V)(i:Nat):((List.range (i+1)).filter p).map f=((List.range i).filter p).map f++(if p i=true then [f i] else []):=by
 rw [xc,vh,cq];congr 1
 cases hb:p i<;>simp [hb]
theorem nY{n:Nat}(p:Nat->Bool)(f:Nat->V)(hz:n<=sizeLine)(hacc:H1 acc=none)
  (hp:∀i:Nat,i<n->∀H Q',Same H1 H->(∀H',Same H H'->Q' (p i) H')->tt (aK [some (.int (i:Int))] ci σ) H Q') (hf:∀i:Nat,i<n->∀H Q',Same H1 H->p i=true->(∀H',Same H H'->Q' (f i) H')->te (aK [some (.int (i:Int))] ci σ) H Q')
  (q:∀H,Same H1 H->H acc=some (.lst (((List.range n).filter p).map f))->Q H):cw (Itr 0 n) (bD 1) tt te 1 ci σ acc Q (upd H1 acc (.lst [])):=by
 refine nW (fun i ys H=>ys=((List.range i).filter p).map f/\Same H1 H/\H acc=some (.lst ys)) (zAB Jll (Same.upd hacc) ae) ?_ ?_
 ·rintro i ys H os hi ho ⟨rfl,sm,ha⟩;rw [show (0:Int)+(i:Int)=(i:Int) by omega];have e:(aK os ci σ).set 1 (some (.int (i:Int)))=aK [some (.int (i:Int))] ci σ:=by
   match os,ho with
   | [o],_=>rfl
  show (∃os',os'.length=1/\(aK os ci σ).set 1 (some (.int (i:Int)))=aK os' ci σ)/\tt ((aK os ci σ).set 1 (some (.int (i:Int)))) H _;rw [e];refine ⟨zn ([some (.int (i:Int))]) rfl rfl,hp i hi _ _ sm fun H2 s2=>?_⟩;have hl:(((List.range i).filter p).map f).length<sizeLine:=by rw [zq4];have:=qm p (List.range i);rw [cX] at this;omega
  cases hb:p i with
  |true=>
   rw [zq2 rfl];refine hf i hi _ _ (sm.trans s2) hb fun H3 s3=>zAJ (s3 _ _ (s2 _ _ ha)) hl ?_ (((sm.trans s2).trans s3).updM hacc) ae
   rw [er,zq2 hb]
  |false=>rw [zq1 bz];refine zAB ?_ (sm.trans s2) (s2 _ _ ha);rw [er,zq1 (by rw [hb];exact bz),g9]
 ·rintro ys H ⟨rfl,sm,ha⟩;exact q H sm ha
end
end L2
namespace FD
open PySem L2 PyProof.Rows
end FD
namespace L2
open PySem PyProof.Rows
end L2
namespace FG
open PySem L2 PyProof.Rows
end FG
namespace FS
open PySem L2 FB PyProof.Rows
inductive Stm where
 |deed (d:Deed)
 |ifs (n:Str) (ones others:List Stm)
 |whl (n:Str) (rows:List Stm)
variable {H H':Hp} {f g:List Addr}
mutual
inductive StmV (K:W.Frag) (H:Hp):V->Stm->List Addr->Prop where
 |deed {q:Addr} {d:Deed}:d.fine->SqT K H q d.vs->StmV K H (.ref q) (.deed d) []
 |ifs {q a b:Addr} {n:Str} {xs ys:List V} {ones others:List Stm} {f g:List Addr}:SqT K H q [.str "if",.str n,.ref a,.ref b]->H a=some (.lst xs)->H b=some (.lst ys)->StmsV K H xs ones f->StmsV K H ys others g->
   StmV K H (.ref q) (.ifs n ones others) (a::b::(f++g))
 |whl {q a:Addr} {n:Str} {xs:List V} {rows:List Stm} {f:List Addr}:SqT K H q [.str "while",.str n,.ref a]->H a=some (.lst xs)->StmsV K H xs rows f->StmV K H (.ref q) (.whl n rows) (a::f)
inductive StmsV (K:W.Frag) (H:Hp):List V->List Stm->List Addr->Prop where
 |nil:StmsV K H [] [] []
 |cons {x:V} {s:Stm} {xs:List V} {ss:List Stm} {f g:List Addr}:StmV K H x s f->StmsV K H xs ss g->StmsV K H (x::xs) (s::ss) (f++g)
end
def Kept(fp:List Addr)(H H':Hp):Prop:=∀a∈fp,∀o,H a=some o->H' a=some o
theorem Kept.left(h:Kept (f++g) H H'):Kept f H H':=fun a ha=>h a (fk _ ha)
theorem Kept.right(h:Kept (f++g) H H'):Kept g H H':=fun a ha=>h a (cW _ ha)
theorem Kept.tail{x:Addr}(h:Kept (x::g) H H'):Kept g H H':=fun a ha=>h a (b7 _ ha)
theorem Kept.of{fp:List Addr}(s:Same H H'):Kept fp H H':=fun a _ o e=>s a o e
theorem Kept.upd{fp:List Addr}{p:Addr}{o:HO}(h:p∉fp):Kept fp H (upd H p o):=fun a ha u e=>by rw [ao (fun z=>h (by rw [<- z];exact ha))];exact e
variable {K:W.Frag}
mutual
theorem StmV.keep(t:TSame H H'):∀{x:V} {s:Stm} {f:List Addr},StmV K H x s f->Kept f H H'->StmV K H' x s f
 |_,_,_,.deed hf h,_=>.deed hf (t.seqT h)
 |_,_,_,.ifs (a:=a) (b:=b) h ha hb h1 h2,k=>.ifs (t.seqT h) (k a Jll _ ha) (k b Jll _ hb) (StmsV.keep t h1 k.tail.tail.left) (StmsV.keep t h2 k.tail.tail.right)
 |_,_,_,.whl (a:=a) h ha h1,k=>.whl (t.seqT h) (k a Jll _ ha) (StmsV.keep t h1 k.tail)
theorem StmsV.keep(t:TSame H H'):∀{xs:List V} {ss:List Stm} {f:List Addr},StmsV K H xs ss f->Kept f H H'->StmsV K H' xs ss f
 |_,_,_,.nil,_=>.nil
 |_,_,_,.cons h1 h2,k=>.cons (StmV.keep t h1 k.left) (StmsV.keep t h2 k.right)
end
theorem StmsV.same{xs:List V}{ss:List Stm}(h:StmsV K H xs ss f)(s:Same H H'):StmsV K H' xs ss f:=h.keep s.ts (Kept.of s)
theorem StmV.same{x:V}{s:Stm}(h:StmV K H x s f)(sm:Same H H'):StmV K H' x s f:=h.keep sm.ts (Kept.of sm)
theorem StmsV.length:∀{xs:List V} {ss:List Stm} {f:List Addr},StmsV K H xs ss f->xs.length=ss.length
 |_,_,_,.nil=>rfl
 |_,_,_,.cons _ h=>by rw [d5,d5,StmsV.length h]
theorem StmsV.snoc{y:V}{r:Stm}(hy:StmV K H y r g):∀{xs:List V} {ss:List Stm} {f:List Addr},StmsV K H xs ss f->StmsV K H (xs++[y]) (ss++[r]) (f++g)
 |_,_,_,.nil=>by have:=StmsV.cons hy StmsV.nil;rw [g9] at this;exact this
 |_,_,_,.cons h1 h2=>by rw [kR];exact .cons h1 (StmsV.snoc hy h2)
mutual
theorem StmV.tracked:∀{x:V} {s:Stm} {f:List Addr},StmV K H x s f->∀a∈f,∃zs,H a=some (.lst zs)
 |_,_,_,.deed _ _,a,ha=>by cases ha
 |_,_,_,.ifs (f:=f) (g:=g) h ha hb h1 h2,c,hc=>by
  rcases zq11.mp hc with rfl | hc
  ·exact ⟨_,ha⟩
  rcases zq11.mp hc with rfl | hc
  ·exact ⟨_,hb⟩
  rcases zq20.mp hc with hc | hc
  ·exact StmsV.tracked h1 c hc
  ·exact StmsV.tracked h2 c hc
 |_,_,_,.whl h ha h1,c,hc=>by
  rcases zq11.mp hc with rfl | hc
  ·exact ⟨_,ha⟩
  ·exact StmsV.tracked h1 c hc
theorem StmsV.tracked:∀{xs:List V} {ss:List Stm} {f:List Addr},StmsV K H xs ss f->∀a∈f,∃zs,H a=some (.lst zs)
 |_,_,_,.nil,a,ha=>by cases ha
 |_,_,_,.cons h1 h2,a,ha=>by
  rcases zq20.mp ha with ha | ha
  ·exact StmV.tracked h1 a ha
  ·exact StmsV.tracked h2 a ha
end
theorem StmsV.get:∀{xs:List V} {ss:List Stm} {f:List Addr} {i:Nat} {x:V},StmsV K H xs ss f->xs[i]?=some x->∃s g,ss[i]?=some s/\StmV K H x s g/\∀a∈g,a∈f
 |_,_,_,_,_,.nil,e=>by simp at e
 |_,_,_,0,_,.cons h _,e=>by simp at e;subst e;exact zAA _ _ rfl h fun a ha=>fk _ ha
 |_,_,_,i+1,x,.cons _ t,e=>by obtain ⟨s,g,h1,h2,h3⟩:=StmsV.get (i:=i) (x:=x) t (by simpa using e);exact zAA s g (by simpa using h1) h2 fun a ha=>cW _ (h3 a ha)
theorem lP{α:Type}{l₁ l₂:List α}(h1:l₁.Nodup)(h2:l₂.Nodup)(h:∀a∈l₁,a∉l₂):(l₁++l₂).Nodup:=by rw [zq65];exact zAB h1 h2 (fun a ha b hb e=>h a ha (by rw [e];exact hb))
end FS
namespace FP
open PySem L2 FB FS FA PyProof.Rows
variable {H:Hp}
inductive Kd where
 |all | iff | whl | els
 deriving DecidableEq
def Kd.str:Kd->Str
 | .all=>"all"
 | .iff=>"if"
 | .whl=>"while"
 | .els=>"else"
structure Ent where
 kind:Kd
 rows:List Stm
 name:Str
 ones:List Stm
def cx(e:Ent):Stm:=match e.kind with
 | .whl=>.whl e.name e.rows
 | .iff=>.ifs e.name e.rows []
 |_=>.ifs e.name e.ones e.rows
def Ent.add(e:Ent)(r:Stm):Ent:={e with rows:=e.rows++[r]}
def lG(r:Stm):List Ent->List Ent
 | []=>[]
 |e::es=>e.add r::es
def eV:List Ent->List Ent
 |e::e2::es=>e2.add (cx e)::es
 |es=>es
theorem bJ{e e2:Ent}{es:List Ent}:(eV (e::e2::es)).length=es.length+1:=rfl
def bX:List Ent->List Stm
 | []=>[]
 | [e]=>e.rows
 |e::e2::es=>bX (e2.add (cx e)::es)
termination_by es=>es.length
def kd3(j:Int):Kd:=if j=1\/j=-2 then .whl else .iff
def start0:List Ent×Int:=([⟨.all,[],"",[]⟩],0)
variable {K:W.Frag}
def EntV(K:W.Frag)(H:Hp)(x:V)(e:Ent)(g:List Addr):Prop:=∃(q r o:Addr)(ys zs:List V)(fr fo:List Addr),x=.ref q/\SqT K H q [.str e.kind.str,.ref r,.str e.name,.ref o]/\H r=some (.lst ys)/\StmsV K H ys e.rows fr/\H o=some (.lst zs)/\StmsV K H zs e.ones fo/\g=r::o::(fr++fo)
theorem EntV.keep{H':Hp}{x:V}{e:Ent}{g:List Addr}(t:TSame H H')(h:EntV K H x e g)(k:Kept g H H'):EntV K H' x e g:=by obtain ⟨q,r,o,ys,zs,fr,fo,ex,hq,hr,h1,ho,h2,rfl⟩:=h;exact zBE q r o ys zs fr fo ex (t.seqT hq) (k r Jll _ hr) (h1.keep t k.tail.tail.left) (k o Jll _ ho) (h2.keep t k.tail.tail.right) rfl
inductive StkV (K:W.Frag) (H:Hp):List V->List Ent->List Addr->Prop where
 |nil:StkV K H [] [] []
 |snoc {xs:List V} {es:List Ent} {f g:List Addr} {x:V} {e:Ent}:StkV K H xs es f->EntV K H x e g->StkV K H (xs++[x]) (e::es) (g++f)
theorem StkV.keep{H':Hp}(t:TSame H H'):∀{xs:List V} {es:List Ent} {f:List Addr},StkV K H xs es f->Kept f H H'->StkV K H' xs es f
 |_,_,_,.nil,_=>.nil
 |_,_,_,.snoc h1 h2,k=>.snoc (StkV.keep t h1 k.right) (h2.keep t k.left)
theorem StkV.length:∀{xs:List V} {es:List Ent} {f:List Addr},StkV K H xs es f->xs.length=es.length
 |_,_,_,.nil=>rfl
 |_,_,_,.snoc h _=>by rw [zq8,d5,StkV.length h];rfl
theorem EntV.tracked{x:V}{e:Ent}{g:List Addr}(h:EntV K H x e g):∀a∈g,∃zs,H a=some (.lst zs):=by
 obtain ⟨q,r,o,ys,zs,fr,fo,ex,hq,hr,h1,ho,h2,rfl⟩:=h;intro a ha;rcases zq11.mp ha with rfl | ha
 ·exact ⟨_,hr⟩
 rcases zq11.mp ha with rfl | ha
 ·exact ⟨_,ho⟩
 rcases zq20.mp ha with ha | ha
 ·exact h1.tracked a ha
 ·exact h2.tracked a ha
theorem StkV.tracked:∀{xs:List V} {es:List Ent} {f:List Addr},StkV K H xs es f->∀a∈f,∃zs,H a=some (.lst zs)
 |_,_,_,.nil,a,ha=>by cases ha
 |_,_,_,.snoc h1 h2,a,ha=>by
  rcases zq20.mp ha with ha | ha
  ·exact h2.tracked a ha
  ·exact StkV.tracked h1 a ha
theorem StkV.inv{xs:List V}{e:Ent}{es:List Ent}{f:List Addr}(h:StkV K H xs (e::es) f):∃xs' x f' g,xs=xs'++[x]/\f=g++f'/\StkV K H xs' es f'/\EntV K H x e g:=by
 cases h with
 |snoc h1 h2=>exact zAQ _ _ _ _ rfl rfl h1 h2
theorem fA{α:Type}{xs:List α}{x:α}:atI (xs++[x]) (-1)=some x:=by
 unfold atI ixN;rw [zq1 Jkm,zq2 (by simp;omega)];have e:(-1+((xs++[x]).length:Int)).toNat=xs.length:=by rw [zq8,bV];omega
 rw [e];simp
structure dk(K:W.Frag)(H0 H:Hp)(S:Addr)(es:List Ent)(B:Nat):Prop where
 same:Same H0 H
 at_:∃xs f,H S=some (.lst xs)/\StkV K H xs es f/\(S::f).Nodup/\∀a∈S::f,H0 a=none
 few:∀e∈es,e.rows.length<=B
theorem ul{H0 H:Hp}{S q r o:Addr}{xs zs:List V}{es:List Ent}{f fo:List Addr}{kind:Kd}{name:Str}{ones:List Stm}{B:Nat}(sm:Same H0 H)(hS:H S=some (.lst xs))(hK:StkV K H xs es f)(hr:H r=some (.lst []))(ho:H o=some (.lst zs))(hz:StmsV K H zs ones fo)
  (hq:SqT K H q [.str kind.str,.ref r,.str name,.ref o]) (nd:(S::((r::o::fo)++f)).Nodup) (fr:∀a∈S::((r::o::fo)++f),H0 a=none) (few:∀e∈es,e.rows.length<=B) :
  dk K H0 (upd H S (.lst (xs++[.ref q]))) S (⟨kind,[],name,ones⟩::es) B:=by
 have nS:=(zq42.mp nd).1;have tt:TSame H (upd H S (.lst (xs++[V.ref q]))):=TSame.updL hS;refine ⟨sm.updM (fr S Jll),zAD _ ((r::o::([]++fo))++f) ae (.snoc (hK.keep tt (Kept.upd fun z=>nS (by simp [z]))) (zBE q r o ([]) zs ([]) fo rfl (tt.seqT hq) ?_ .nil ?_ (hz.keep tt (Kept.upd fun z=>nS (by simp [z]))) rfl)) nd fr,fun e he=>?_⟩
 ·rw [ao (fun z=>nS (by rw [<- z];simp))];exact hr
 ·rw [ao (fun z=>nS (by rw [<- z];simp))];exact ho
 ·rcases zq11.mp he with z | z
  ·subst z;exact bT _
  ·exact few e z
theorem Ep{H:Hp}{S:Addr}{xs:List V}{c:Prop}[Decidable c]{k:Int}{A B:Prop}(hx:SqL K H S xs)(hA:c->k<xs.length->A)(hB:¬(c/\k<xs.length)->B):
  if decide c=true then ∃ys,(SqL K H S ys\/SqT K H S ys)/\if decide (k<(ys.length:Int))=true then A else B else B:=by
 by_cases h:c
 ·rw [bC h,zq2 rfl];refine zn xs (.inl hx) ?_
  by_cases h2:k<(xs.length:Int)
  ·rw [bC h2,zq2 rfl];exact hA h h2
  ·rw [bh h2,zq1 bz];exact hB fun z=>h2 z.2
 ·rw [bh h,zq1 bz];exact hB fun z=>h z.1
theorem Jo{H:Hp}{S T:Addr}{xs ts:List V}{c:Prop}[Decidable c]{k l:Int}{A B:Prop}(hx:SqL K H S xs)(ht:SqL K H T ts)(hA:c->(xs.length:Int)<k->l<ts.length->A)(hB:¬(c/\(xs.length:Int)<k/\l<ts.length)->B):
  if decide c=true then ∃ys,(SqL K H S ys\/SqT K H S ys)/\if decide ((ys.length:Int)<k)=true then ∃zs,(SqL K H T zs\/SqT K H T zs)/\if decide (l<(zs.length:Int))=true then A else B else B else B:=by
 by_cases h:c
 ·rw [bC h,zq2 rfl];refine zn xs (.inl hx) ?_
  by_cases h2:(xs.length:Int)<k
  ·rw [bC h2,zq2 rfl];refine zn ts (.inl ht) ?_
   by_cases h3:l<(ts.length:Int)
   ·rw [bC h3,zq2 rfl];exact hA h h2 h3
   ·rw [bh h3,zq1 bz];exact hB fun z=>h3 z.2.2
  ·rw [bh h2,zq1 bz];exact hB fun z=>h2 z.2.1
 ·rw [bh h,zq1 bz];exact hB fun z=>h z.1
theorem kd_if{k:Kd}:(k.str="if")↔k=.iff:=by cases k<;>decide +kernel
theorem xq{H:Hp}{S q:Addr}{xs:List V}{c:Prop}[Decidable c]{k:Kd}{r o:Addr}{n:Str}{A B:Hp->Prop}(hx:SqL K H S (xs++[.ref q]))(hq:SqT K H q [.str k.str,.ref r,.str n,.ref o])(hA:c->k=.iff->A H)(hB:¬(c/\k=.iff)->B H):
  if decide c=true then ∃xs v,SqL K H S xs/\atI xs (-1)=some v/\Ce K v (V.int 0) H fun x H1=>rEq x (V.str "if") H1 fun x H'=>∃k,x=V.bl k/\if k=true then A H' else B H' else B H:=by
 by_cases h:c
 ·rw [bC h,zq2 rfl];refine zAA _ _ hx fA ?_;rw [D3];refine zAA _ _ hq rfl ?_;show pH (.str k.str) (.str "if")=true/\∃k_1,V.bl (decide (V.str k.str=V.str "if"))=V.bl k_1/\_;refine ⟨rfl,zn _ rfl ?_⟩
  by_cases hk:k=.iff
  ·rw [bC (congrArg V.str (kd_if.mpr hk)),zq2 rfl];exact hA h hk
  ·rw [bh (fun z=>hk (kd_if.mp (V.str.inj z))),zq1 bz];exact hB fun z=>hk z.2
 ·rw [bh h,zq1 bz];exact hB fun z=>h z.1
theorem EK{j:Int}(h0:-2<=j)(h3:j<3):atI [V.str "if",V.str "while",V.str "if"] j=some (.str (kd3 j).str):=by
 have h:j=-2\/j=-1\/j=0\/j=1\/j=2:=by omega
 rcases h with rfl | rfl | rfl | rfl | rfl<;>rfl
end FP
namespace FS
open PySem L2 FB PyProof.Rows
variable {a b:List Stm}
theorem C1{f k:Str}(h:f∈opsL)(hk:opsL.contains k=false):¬f=k:=by rintro rfl;rw [List.contains_eq_mem,decide_eq_false_iff_not] at hk;exact hk h
theorem tK{K:W.Frag}{H:Hp}{q:Addr}{d:Deed}{k:Str}{Z:V->Hp->Prop}(hf:d.fine)(hq:SqT K H q d.vs)(h1:opsL.contains k=false)(h2:¬("tell":Str)=k) (h3:¬("copy":Str)=k) (h:Z (.bl false) H):∃xs v,SqT K H q xs/\atI xs 0=some v/\rEq v (.str k) H Z:=by
 cases d with
 |tell a=>exact zAD _ _ hq rfl rfl (by rw [bh (fun z=>h2 (V.str.inj z))];exact h)
 |copy n a=>exact zAD _ _ hq rfl rfl (by rw [bh (fun z=>h3 (V.str.inj z))];exact h)
 |op f n a b=>exact zAD _ _ hq rfl rfl (by rw [bh (fun z=>C1 hf h1 (V.str.inj z))];exact h)
mutual
def Stm.deep:Stm->Nat
 | .deed _=>0
 | .ifs _ a b=>max (bA a) (bA b)+1
 | .whl _ a=>bA a+1
def bA:List Stm->Nat
 | []=>0
 |s::ss=>max s.deep (bA ss)
end
mutual
def Stm.many:Stm->Nat
 | .deed _=>1
 | .ifs _ a b=>aS a+aS b+1
 | .whl _ a=>aS a+1
def aS:List Stm->Nat
 | []=>0
 |s::ss=>s.many+aS ss
end
def Opd.good(ns:List Str)(w:Int):Opd->Prop
 | .box n=>n∈ns
 | .word i=>0<=i/\i<2 ^ w.toNat
def Deed.good(ns:List Str)(w:Int):Deed->Prop
 | .tell a=>Opd.good ns w a
 | .copy d a=>d∈ns/\Opd.good ns w a
 | .op f d a b=>f∈opsL/\d∈ns/\Opd.good ns w a/\Opd.good ns w b
mutual
def Stm.good(ns:List Str)(w:Int):Stm->Prop
 | .deed d=>Deed.good ns w d
 | .ifs n a b=>n∈ns/\cR ns w a/\cR ns w b
 | .whl n a=>n∈ns/\cR ns w a
def cR(ns:List Str)(w:Int):List Stm->Prop
 | []=>True
 |s::ss=>s.good ns w/\cR ns w ss
end
theorem yd(s:Stm):1<=s.many:=by cases s<;>simp [Stm.many]
theorem oP(ss:List Stm):ss.length<=aS ss:=by
 induction ss with
 |nil=>simp [aS]
 |cons s ss ih=>rw [aS,d5];have:=yd s;omega
theorem yc{s:Stm}{ss:List Stm}(h:s∈ss):s.many<=aS ss:=by
 induction ss with
 |nil=>cases h
 |cons x xs ih=>
  rw [aS];rcases zq11.mp h with z | z
  ·subst z;omega
  ·have:=ih z;omega
theorem lj{s:Stm}{ss:List Stm}(h:s∈ss):s.deep<=bA ss:=by
 induction ss with
 |nil=>cases h
 |cons x xs ih=>
  rw [bA];rcases zq11.mp h with z | z
  ·subst z;omega
  ·have:=ih z;omega
theorem gR:bA (a++b)=max (bA a) (bA b):=by
 induction a with
 |nil=>simp [bA]
 |cons s ss ih=>rw [vj,bA,bA,ih,Nat.max_assoc]
theorem dy:aS (a++b)=aS a+aS b:=by
 induction a with
 |nil=>simp [aS]
 |cons s ss ih=>rw [vj,aS,aS,ih];omega
theorem goodL_append{ns:List Str}{w:Int}:cR ns w (a++b)↔cR ns w a/\cR ns w b:=by
 induction a with
 |nil=>simp [cR]
 |cons s ss ih=>rw [vj,cR,cR,ih];exact and_assoc.symm
end FS
namespace FP
open PySem L2 FB FS FA PyProof.Rows
theorem ou{m:Int}{ns:List Str}{w:Int}:Deed.good ns w (eX m ns w):=by
 have og:∀k,Opd.good ns w (pe k ns w):=fun k=>by
  unfold pe
  split
  ·next h=>exact hX h.2
  ·have hp:(0:Int)<1 * 2 ^ w.toNat:=by rw [vi];exact Int.pow_pos Jkm
   refine ⟨gc _ Jlk,?_⟩;have:=kF (k / 3) hp;rw [vi] at this ⊢;exact this
 unfold eX
 split
 ·exact og _
 ·next h=>
  have hne:¬ns=[]:=fun z=>h (.inr z)
  split
  ·exact ⟨hX hne,og _⟩
  ·have hf:=iM (m:=m) (ns:=ns) (w:=w);unfold eX at hf;rw [zq1 h,zq1 (by assumption)] at hf;exact zAF hf (hX hne) (og _) (og _)
structure B3(ns:List Str)(w:Int)(h:Nat)(e:Ent):Prop where
 d1:bA e.rows+h<=8
 d2:bA e.ones+h<=8
 g1:cR ns w e.rows
 g2:cR ns w e.ones
 nm:h≠0->e.name∈ns
def EsG(ns:List Str)(w:Int):List Ent->Prop
 | []=>True
 |e::es=>B3 ns w es.length e/\EsG ns w es
def kK:List Ent->Nat
 | []=>0
 |e::es=>aS e.rows+aS e.ones+kK es
def gO(es:List Ent):Nat:=kK es+(es.length-1)
theorem nZ{ns:List Str}{w:Int}{h:Nat}{e:Ent}(g:B3 ns w (h+1) e):(cx e).good ns w/\(cx e).deep+h<=8/\(cx e).many<=aS e.rows+aS e.ones+1:=by
 have hn:=g.nm Jlk;have h1:=g.d1;have h2:=g.d2;unfold cx
 cases e.kind
 ·exact zAB (zAB hn g.g2 g.g1) (by simp only [Stm.deep];omega) (by simp only [Stm.many];omega)
 ·exact zAB (zAB hn g.g1 trivial) (by simp only [Stm.deep,bA];omega) (by simp only [Stm.many,aS];omega)
 ·exact zAB ⟨hn,g.g1⟩ (by simp only [Stm.deep];omega) (by simp only [Stm.many];omega)
 ·exact zAB (zAB hn g.g2 g.g1) (by simp only [Stm.deep];omega) (by simp only [Stm.many];omega)
theorem nJ{ns:List Str}{w:Int}{h:Nat}{e:Ent}{s:Stm}(g:B3 ns w h e)(hg:s.good ns w)(hd:s.deep+h<=8):B3 ns w h (e.add s):=by have h1:=g.d1;refine ⟨?_,g.d2,goodL_append.mpr (zAB g.g1 hg trivial),g.g2,g.nm⟩;show bA (e.rows++[s])+h<=8;rw [gR,bA,bA];omega
theorem gN{ns:List Str}{w:Int}{e e2:Ent}{es:List Ent}(g:EsG ns w (e::e2::es)):EsG ns w (eV (e::e2::es))/\gO (eV (e::e2::es))<=gO (e::e2::es):=by obtain ⟨g1,g2,g3⟩:=g;obtain ⟨c1,c2,c3⟩:=nZ (h:=es.length) g1;refine ⟨⟨nJ g2 c1 c2,g3⟩,?_⟩;show kK (e2.add (cx e)::es)+_<=kK (e::e2::es)+_;simp only [kK,Ent.add,dy,aS,eV,List.length_cons];omega
theorem gh{ns:List Str}{w:Int}:∀{es:List Ent},EsG ns w es->cR ns w (bX es)/\bA (bX es)<=8/\aS (bX es)<=gO es
 | [],_=>by rw [bX];exact zAB trivial (by simp [bA]) (by simp [aS])
 | [e],g=>by
  rw [bX];have:=g.1.d1;exact zAB g.1.g1 (by simp at this;omega) (by simp only [gO,kK];omega)
 |e::e2::es,g=>by rw [bX];obtain ⟨h1,h2⟩:=gN g;obtain ⟨h3,h4,h5⟩:=gh (es:=e2.add (cx e)::es) h1;exact zAB h3 h4 (dX h5 h2)
termination_by es=>es.length
end FP
namespace L2
open PySem PySem.Spec PyProof.Rows
variable {H:Hp} {o:HO} {p:Addr}
def SameX(p:Addr)(H H':Hp):Prop:=∀c o,H c=some o->c≠p->H' c=some o
theorem SameX.refl:SameX p H H:=fun _ _ e _=>e
theorem SameX.trans{H1 H2:Hp}(a:SameX p H H1)(b:SameX p H1 H2):SameX p H H2:=fun c o e n=>b c o (a c o e n) n
theorem SameX.of{H':Hp}(s:Same H H'):SameX p H H':=fun c o e _=>s c o e
theorem SameX.upd:SameX p H (L2.upd H p o):=fun c u e n=>by rw [ao n];exact e
theorem SameX.free{c:Addr}{H':Hp}(s:SameX p H H')(hp:H' p=some o)(h:H' c=none):H c=none:=by
 cases e:H c with
 |none=>rfl
 |some u=>
  have n:c≠p:=fun z=>by subst z;rw [hp] at h;cases h
  rw [s c u e n] at h;cases h
theorem TSame.updI{C dx:Addr}{fs:List (Str×V)}(h:H p=some (.ins C dx fs)):TSame H (L2.upd H p o):=
 ⟨fun b xs e=>by rw [ao (fun z=>by rw [z,h] at e;cases e)];exact e,fun b u v e=>by rw [ao (fun z=>by rw [z,h] at e;cases e)];exact e⟩
end L2
namespace FS
open PySem L2 FB PyProof.Rows
def Fg(wd:Int)(a b r:Addr):List (Str×V):=[("width",.int wd),("ins",.ref a),("boxes",.ref b),("rows",.ref r)]
structure qL(K:W.Frag)(C:Addr)(H:Hp)(p:Addr)(wd:Int)(ins oth:List Str)(ss:List Stm)(a b r:Addr)(xs:List V)(f:List Addr):Prop where
 ob:∃dx,H p=some (.ins C dx (Fg wd a b r))
 ia:H a=some (.lst (ins.map V.str))
 bx:H b=some (.lst ((ins++oth).map V.str))
 rs:H r=some (.lst xs)
 st:StmsV K H xs ss f
theorem eM{f:Str}{v:V}:∀{fs:List (Str×V)},(fs.map (·.1)).contains f=false->dC f v fs=fs++[(f,v)]
 | [],_=>rfl
 | (g,x)::r,h=>by
  rw [cm,List.contains_cons,Bool.or_eq_false_iff] at h;have n:¬g=f:=fun z=>by subst z;simp at h
  rw [show dC f v ((g,x)::r)=(if g=f then (g,v)::r else (g,x)::dC f v r) from rfl,zq1 n,eM h.2];rfl
end FS
namespace K01M
theorem tb(x w:Nat):x / 2 ^ w % 2=(x.testBit w).toNat:=by
 rw [Nat.testBit_eq_decide_div_mod_eq];have h:x / 2 ^ w % 2=0\/x / 2 ^ w % 2=1:=by omega
 rcases h with h | h<;>simp [h]
end K01M
namespace FO
open PySem L2 K01M FB PyProof.Rows
abbrev ops:List Str:=FB.opsL
end FO
namespace FR
open PySem L2 FB FS FG FO PyProof.Rows
end FR
namespace L2
open PySem PySem.Spec PyProof.Rows
section
variable {K:W.Frag} {te:TE} {ci:List Nat} {σ:St} {acc:Addr} {Q:Hp->Prop} {H1:Hp} {a:Addr} {xs:List V}
end
theorem eQ{c:TT}{tb:TS}{D:cY}{σ:St}{H:Hp}(Pv:St->Hp->Prop)(μ:St->Hp->Nat)(h0:Pv σ H)
  (hs:∀σ H,Pv σ H->c σ H fun b H1=>if b=true then ∃N:St->Hp->Prop,(∀σ' H',N σ' H'->∃m',m'<μ σ H/\m'=μ σ' H'/\Pv σ' H')/\tb {D with nx:=N,ct:=N,bk:=D.nx} σ H1 else D.nx σ H1):Ab c tb D σ H:=by
 refine zn (fun m σ H=>m=μ σ H/\Pv σ H) (zn _ rfl h0) ?_;rintro m σ H ⟨rfl,p⟩;exact hs σ H p
end L2
namespace FW
open PySem L2 FB FS FG FO FR PyProof.Rows
section
variable {K:W.Frag} {H:Hp}
end
end FW
namespace FX
open PySem L2 FB FS FG FO FR FW PyProof.Rows
structure Nd where
 rd:List Str
 nm:Option Str
 ah:List Int
def seen(old new:Nat->Nat)(i:Nat)(j:Int):Nat:=if j<0 then 0 else if j.toNat<i then new j.toNat else old j.toNat
section
variable {n:Str} {N:List Nd} {v:Nat->Nat->Nat}
end
section
variable {S:List (List Str)}
end
end FX
namespace FX
open PySem L2 FB FS FG FO FR FW PyProof.Rows PySem.Spec
def leS(a b:Str):Bool:=! ltCps b.cps.toList a.cps.toList
def srt(l:List Str):List Str:=l.mergeSort leS
end FX
namespace L2
open PySem PySem.Spec PyProof.Rows
section
variable {X:Cx}
end
end L2
namespace FZ
open PySem L2 FB FS FG FO FR PyProof.Rows
inductive Ed where
 |stop
 |go (i:Nat)
 |choose (n:Str) (i j:Nat)
 deriving DecidableEq
structure Blk where
 ds:List Deed
 ed:Ed
def aB(b:Blk)(B:List Blk):Nat×List Blk:=match b.ds,b.ed with
 | [],.go i=>(i,B)
 |_,_=>(B.length,B++[b])
mutual
def bU:Stm->Blk->List Blk->Blk×List Blk
 | .deed d,b,B=>if b.ds.length=8 then (⟨[d],.go (aB b B).1⟩,(aB b B).2) else (⟨d::b.ds,b.ed⟩,B)
 | .ifs n x y,b,B=>
  let w:=aB b B
  let o:=aM x ⟨[],.go w.1⟩ w.2
  let wo:=aB o.1 o.2
  let p:=aM y ⟨[],.go w.1⟩ wo.2
  let wp:=aB p.1 p.2
  (⟨[],.choose n wo.1 wp.1⟩,wp.2)
 | .whl n a,b,B=>
  let w:=aB b B
  let o:=aM a ⟨[],.go w.2.length⟩ (w.2++[⟨[],.stop⟩])
  let wo:=aB o.1 o.2
  (⟨[],.go w.2.length⟩,wo.2.set w.2.length ⟨[],.choose n wo.1 w.1⟩)
def aM:List Stm->Blk->List Blk->Blk×List Blk
 | [],b,B=>(b,B)
 |s::r,b,B=>bU s (aM r b B).1 (aM r b B).2
end
def aY(ss:List Stm):List Blk:=(aM ss ⟨[],.stop⟩ [⟨[],.stop⟩]).2.set 0 (aM ss ⟨[],.stop⟩ [⟨[],.stop⟩]).1
def Ed.tg:Ed->List Nat
 | .stop=>[]
 | .go i=>[i]
 | .choose _ i j=>[i,j]
theorem qf(b:Blk)(B:List Blk):((aB b B).2=B/\b.ds=[]/\b.ed=.go (aB b B).1)\/((aB b B).1=B.length/\(aB b B).2=B++[b]):=by
 obtain ⟨ds,ed⟩:=b;unfold aB
 cases ds with
 |nil=>
  cases ed with
  |stop=>exact .inr ⟨rfl,rfl⟩
  |go i=>exact .inl (zAB rfl rfl rfl)
  |choose n i j=>exact .inr ⟨rfl,rfl⟩
 |cons d r=>exact .inr ⟨rfl,rfl⟩
theorem bw(b:Blk)(B:List Blk):B.length<=(aB b B).2.length/\(aB b B).2.length<=B.length+1/\∀i,i<B.length->(aB b B).2[i]?=B[i]?:=by
 rcases qf b B with ⟨h,_⟩ | ⟨_,h⟩
 ·rw [h];exact zAB (zq6 _) Jlk fun _ _=>rfl
 ·rw [h,zq8,bV];exact zAB Jlk Jlk fun i hi=>gH hi
theorem cL{A B C:List Blk}(h1:A.length<=B.length/\∀i,i<A.length->B[i]?=A[i]?)(h2:B.length<=C.length/\∀i,i<B.length->C[i]?=B[i]?):A.length<=C.length/\∀i,i<A.length->C[i]?=A[i]?:=⟨dX h1.1 h2.1,fun i hi=>(h2.2 i (fh hi h1.1)).trans (h1.2 i hi)⟩
theorem d4(b:Blk)(B:List Blk):B.length<=(aB b B).2.length/\∀i,i<B.length->(aB b B).2[i]?=B[i]?:=⟨(bw b B).1,(bw b B).2.2⟩
theorem B9(b:Blk)(B:List Blk):B.length<=(B++[b]).length/\∀i,i<B.length->(B++[b])[i]?=B[i]?:=⟨by rw [zq8];exact qI _ _,fun _ hi=>gH hi⟩
theorem Cz{A B:List Blk}(b:Blk)(h:A.length<=B.length/\∀i,i<A.length->B[i]?=A[i]?):A.length<=(B.set A.length b).length/\∀i,i<A.length->(B.set A.length b)[i]?=A[i]?:=⟨by rw [sJ];exact h.1,fun i hi=>(Aq (sH hi)).trans (h.2 i hi)⟩
mutual
theorem wU:∀(s:Stm)(b:Blk)(B:List Blk),B.length<=(bU s b B).2.length/\∀i,i<B.length->(bU s b B).2[i]?=B[i]?
 | .deed d,b,B=>by
  rw [bU]
  split
  ·exact d4 b B
  ·exact ⟨zq6 _,fun _ _=>rfl⟩
 | .ifs n x y,b,B=>by
  rw [bU];exact cL (d4 _ _) (cL (bG x _ _) (cL (d4 _ _) (cL (bG y _ _) (d4 _ _))))
 | .whl n a,b,B=>by rw [bU];exact cL (d4 b B) (Cz _ (cL (B9 _ _) (cL (bG a _ _) (d4 _ _))))
theorem bG:∀(l:List Stm)(b:Blk)(B:List Blk),B.length<=(aM l b B).2.length/\∀i,i<B.length->(aM l b B).2[i]?=B[i]?
 | [],b,B=>by rw [aM];exact ⟨zq6 _,fun _ _=>rfl⟩
 |s::r,b,B=>by rw [aM];exact cL (bG r b B) (wU s _ _)
end
mutual
theorem wV:∀(s:Stm)(b:Blk)(B:List Blk),(bU s b B).2.length<=B.length+3 * s.many
 | .deed d,b,B=>by
  have:=(bw b B).2.1;rw [bU,Stm.many]
  split<;>dsimp only<;>omega
 | .ifs n x y,b,B=>by
  rw [bU,Stm.many];dsimp only;have h1:=bw b B;generalize aB b B=w at *;have h2:=cB x ⟨[],.go w.1⟩ w.2;generalize aM x ⟨[],.go w.1⟩ w.2=o at *;have h3:=bw o.1 o.2;generalize aB o.1 o.2=wo at *;have h4:=cB y ⟨[],.go w.1⟩ wo.2;generalize aM y ⟨[],.go w.1⟩ wo.2=p at *;have h5:=bw p.1 p.2;generalize aB p.1 p.2=wp at *;omega
 | .whl n a,b,B=>by rw [bU,Stm.many];dsimp only;have h1:=bw b B;generalize aB b B=w at *;have h2:=cB a ⟨[],.go w.2.length⟩ (w.2++[⟨[],.stop⟩]);generalize aM a ⟨[],.go w.2.length⟩ (w.2++[⟨[],.stop⟩])=o at *;have h3:=bw o.1 o.2;generalize aB o.1 o.2=wo at *;rw [zq8,bV] at h2;rw [sJ];omega
theorem cB:∀(l:List Stm)(b:Blk)(B:List Blk),(aM l b B).2.length<=B.length+3 * aS l
 | [],b,B=>by rw [aM,aS];exact qI _ _
 |s::r,b,B=>by have h1:=cB r b B;rw [aM,aS];generalize aM r b B=o at *;have h2:=wV s o.1 o.2;omega
end
theorem gL(ss:List Stm):(aY ss).length<=3 * aS ss+1/\0<(aY ss).length:=by have h1:=cB ss ⟨[],.stop⟩ [⟨[],.stop⟩];have h2:=(bG ss ⟨[],.stop⟩ [⟨[],.stop⟩]).1;unfold aY;rw [sJ];simp only [List.length_singleton] at h1 h2;omega
structure BlkG(ns:List Str)(w:Int)(m:Nat)(b:Blk):Prop where
 gd:∀d∈b.ds,Deed.good ns w d
 len:b.ds.length<=8
 tg:∀i∈b.ed.tg,i<m
 nm:∀n i j,b.ed=.choose n i j->n∈ns
theorem BlkG.mono{ns:List Str}{w:Int}{m m':Nat}{b:Blk}(h:BlkG ns w m b)(hm:m<=m'):BlkG ns w m' b:=⟨h.gd,h.len,fun i hi=>fh (h.tg i hi) hm,h.nm⟩
def iX(ns:List Str)(w:Int)(m:Nat)(B:List Blk):Prop:=∀b∈B,BlkG ns w m b
theorem goG{ns:List Str}{w:Int}{m i:Nat}(h:i<m):BlkG ns w m ⟨[],.go i⟩:=⟨fun d hd=>(qr hd).elim,bT _,fun j hj=>by rw [zq9.mp hj];exact h,fun n i j e=>by cases e⟩
theorem zZ{ns:List Str}{w:Int}{m:Nat}:BlkG ns w m ⟨[],.stop⟩:=⟨fun d hd=>(qr hd).elim,bT _,fun j hj=>(qr hj).elim,fun n i j e=>by cases e⟩
theorem fX{ns:List Str}{w:Int}{b:Blk}{B:List Blk}(hb:BlkG ns w B.length b)(hB:iX ns w B.length B):(aB b B).1<(aB b B).2.length/\iX ns w (aB b B).2.length (aB b B).2:=by
 rcases qf b B with ⟨h1,h2,h3⟩ | ⟨h1,h2⟩
 ·rw [h1];exact ⟨hb.tg _ (by rw [h3];simp [Ed.tg]),hB⟩
 ·rw [h1,h2,zq8,bV];refine ⟨Jlk,fun c hc=>?_⟩;rcases zq20.mp hc with z | z
  ·exact (hB c z).mono Jlk
  ·rw [zq9.mp z];exact hb.mono Jlk
mutual
theorem CL{ns:List Str}{w:Int}:∀(s:Stm)(b:Blk)(B:List Blk),s.good ns w->BlkG ns w B.length b->iX ns w B.length B->BlkG ns w (bU s b B).2.length (bU s b B).1/\iX ns w (bU s b B).2.length (bU s b B).2
 | .deed d,b,B,hs,hb,hB=>by
  rw [bU]
  split
  ·obtain ⟨h1,h2⟩:=fX hb hB;exact ⟨⟨fun c hc=>by rw [zq9.mp hc];exact hs,Jll,fun i hi=>by rw [zq9.mp hi];exact h1,fun n i j e=>by cases e⟩,h2⟩
  ·next hl=>
   have:=hb.len;exact ⟨⟨fun c hc=>by
    rcases zq11.mp hc with z | z
    ·rw [z];exact hs
    ·exact hb.gd c z,by rw [d5];omega,hb.tg,hb.nm⟩,hB⟩
 | .ifs n x y,b,B,hs,hb,hB=>by
  rw [bU];dsimp only;obtain ⟨h1,h2⟩:=fX hb hB;generalize aB b B=w0 at *;obtain ⟨h3,h4⟩:=gZ x ⟨[],.go w0.1⟩ w0.2 hs.2.1 (goG h1) h2;have l3:=bG x ⟨[],.go w0.1⟩ w0.2;generalize aM x ⟨[],.go w0.1⟩ w0.2=o at *;obtain ⟨h5,h6⟩:=fX h3 h4;have l5:=bw o.1 o.2;generalize aB o.1 o.2=wo at *;obtain ⟨h7,h8⟩:=gZ y ⟨[],.go w0.1⟩ wo.2 hs.2.2 (goG Jlk) h6;have l7:=bG y ⟨[],.go w0.1⟩ wo.2;generalize aM y ⟨[],.go w0.1⟩ wo.2=p at *;obtain ⟨h9,h10⟩:=fX h7 h8;have l9:=bw p.1 p.2;generalize aB p.1 p.2=wp at *;refine ⟨⟨fun d hd=>(qr hd).elim,bT _,fun i hi=>?_,fun m i j e=>by cases e;exact hs.1⟩,h10⟩;have hi':i∈[wo.1,wp.1]:=hi;rcases zq11.mp hi' with z | z
  ·omega
  ·rw [zq9.mp z];exact h9
 | .whl n a,b,B,hs,hb,hB=>by
  rw [bU];dsimp only;obtain ⟨h1,h2⟩:=fX hb hB;generalize aB b B=w0 at *;have hB2:iX ns w (w0.2++[(⟨[],.stop⟩:Blk)]).length (w0.2++[(⟨[],.stop⟩:Blk)]):=fun c hc=>by
   rw [zq8,bV];rcases zq20.mp hc with z | z
   ·exact (h2 c z).mono Jlk
   ·rw [zq9.mp z];exact zZ
  obtain ⟨h3,h4⟩:=gZ a ⟨[],.go w0.2.length⟩ (w0.2++[⟨[],.stop⟩]) hs.2 (goG (by rw [zq8,bV];omega)) hB2;have l3:=bG a ⟨[],.go w0.2.length⟩ (w0.2++[⟨[],.stop⟩]);generalize aM a ⟨[],.go w0.2.length⟩ (w0.2++[⟨[],.stop⟩])=o at *;rw [zq8,bV] at l3;obtain ⟨h5,h6⟩:=fX h3 h4;have l5:=bw o.1 o.2;generalize aB o.1 o.2=wo at *;rw [sJ];refine ⟨goG Jlk,fun c hc=>?_⟩;rcases E9 hc with z | z
  ·exact h6 c z
  ·rw [z];refine ⟨fun d hd=>(qr hd).elim,bT _,fun i hi=>?_,fun m i j e=>by cases e;exact hs.1⟩;have hi':i∈[wo.1,w0.1]:=hi;rcases zq11.mp hi' with y | y
   ·rw [y];exact h5
   ·rw [zq9.mp y];omega
theorem gZ{ns:List Str}{w:Int}:∀(l:List Stm)(b:Blk)(B:List Blk),cR ns w l->BlkG ns w B.length b->iX ns w B.length B->BlkG ns w (aM l b B).2.length (aM l b B).1/\iX ns w (aM l b B).2.length (aM l b B).2
 | [],b,B,_,hb,hB=>by rw [aM];exact ⟨hb,hB⟩
 |s::r,b,B,hl,hb,hB=>by obtain ⟨h1,h2⟩:=gZ r b B hl.2 hb hB;rw [aM];exact CL s _ _ hl.1 h1 h2
end
theorem jv{ns:List Str}{w:Int}{ss:List Stm}(h:cR ns w ss):iX ns w (aY ss).length (aY ss):=by
 obtain ⟨h1,h2⟩:=gZ ss ⟨[],.stop⟩ [⟨[],.stop⟩] h zZ (fun c hc=>by rw [zq9.mp hc];exact zZ);unfold aY;rw [sJ];intro c hc;rcases E9 hc with z | z
 ·exact h2 c z
 ·rw [z];exact h1
theorem jj:∀(l s:List Nat),l.Nodup->(∀x∈l,x∈s)->l.length<=s.length
 | [],s,_,_=>bT _
 |a::l,s,nd,h=>by obtain ⟨n1,n2⟩:=zq42.mp nd;have ha:=h a (cN ..);have h2:=jj l (s.erase a) n2 fun x hx=>(List.mem_erase_of_ne (show x≠a from fun e=>n1 (e ▸ hx))).mpr (h x (b7 _ hx));rw [Ea ha] at h2;have:=Eb ha;rw [d5];omega
end FZ
namespace GA
open PySem L2 FB FS FG FO FR FZ PyProof.Rows
end GA
namespace GB
open PySem L2 FB FS FG FO FR FW FX PyProof.Rows
def SqF(K:W.Frag)(H:Hp):Prop:=∀(a:Addr)(xs ys:List V),SqT K H a xs->SqT K H a ys->xs=ys
def JC(K:W.Frag)(n:Nat):R2:=fun x y H Q=>∃b,(SqF K H->Rq K H n x y b)/\Q (.bl (! b)) H
theorem yC{X:Cx}{n:Nat}(hu:X.A.units+(n+1)<cLine):OpR X (compareOp .NotEq) (JC X.K n):=fun pins s σ H x y v u Q I rx ry ⟨b,d,q⟩=>mP hu pins s σ H x y v u Q I rx ry (zn b (d fun _ _ _ h h'=>I.tuple_inj h h') q)
section
variable {K:W.Frag} {H:Hp}
def eqB(l l':List Stm):Bool:=@decide (l=l') (Classical.propDecidable _)
end
end GB
namespace GD
variable {b bt dn:List Nat} {p r:Nat}
section
variable (G:Nat->Nat->Option Int) (so:Nat->Nat) (U:Nat->Int)
def fB(bt:List Nat)(s:Nat):Nat:=bt.countP fun o=>decide (so o=s)
def cO(dn bt:List Nat)(p j:Nat):Bool:=match G j p with
 |none=>true
 |some l=>decide (j∈dn) || (decide (l=0)&&decide (j∈bt))
def bP(dn bt:List Nat)(p:Nat):Bool:=!(decide (so p<3)&&decide ((fB so bt (so p):Int)=U (so p)))&&(List.range p).all (cO G dn bt p)
def gk(dn bt:List Nat)(p:Nat):List (List Nat):=(if bP G so U dn bt p=true then [bt++[p]] else [])++(if bP G so U dn bt p=false\/so p<3 then [bt] else [])
def bF(dn:List Nat)(bts:List (List Nat))(p:Nat):List (List Nat):=bts.flatMap fun b=>gk G so U dn b p
def cj(n:Nat)(dn:List Nat):List Nat:=(List.range n).filter fun p=>! decide (p∈dn)
def iV(dn b ms:List Nat):Bool:=ms.any fun p=>! decide (p∈b)&&bP G so U dn b p
def bY(n:Nat)(dn:List Nat):List (List Nat):=((cj n dn).foldl (bF G so U dn) [[]]).filter fun b=>! iV G so U dn b (cj n dn)
def cS(n:Nat)(dn b:List Nat):List Nat:=(List.range n).filter fun p=>decide (p∈dn) || decide (p∈b)
def i6(acc:List (List Nat×List (List Nat)))(k:List Nat)(v:List (List Nat)):List (List Nat×List (List Nat)):=if k∈acc.map (·.1) then acc else acc++[(k,v)]
def eg(n:Nat)(acc:List (List Nat×List (List Nat)))(w:List Nat×List (List Nat))(bs:List (List Nat)):List (List Nat×List (List Nat)):=bs.foldl (fun acc b=>i6 acc (cS n w.1 b) (w.2++[b])) acc
def DW(n:Nat)(ws:List (List Nat×List (List Nat))):List (List Nat×List (List Nat)):=ws.foldl (fun acc w=>eg n acc w (bY G so U n w.1)) []
def c9(n:Nat):Nat->List (List Nat×List (List Nat))
 |0=>[([],[])]
 |r+1=>DW G so U n (c9 n r)
inductive Lay (n:Nat):List (List Nat)->List Nat->Prop
 |nil:Lay n [] []
 |snoc {bss dn b}:Lay n bss dn->b∈bY G so U n dn->Lay n (bss++[b]) (cS n dn b)
structure Fine(dn ms b:List Nat):Prop where
 sub:b.Sublist ms
 lean:∀p∈b,∀j,j<p->cO G dn b p j=true
 load:∀s,s<3->(fB so b s:Int)<=U s
end
section
variable {G:Nat->Nat->Option Int} {so:Nat->Nat} {U:Nat->Int} {n:Nat}
theorem vC{s:Nat}:fB so (bt++[p]) s=fB so bt s+(if so p=s then 1 else 0):=by unfold fB;rw [List.countP_append];simp [List.countP_cons]
theorem js{e:List Nat}{j:Nat}(h:cO G dn b p j=true):cO G dn (b++e) p j=true:=by
 unfold cO at *
 split
 ·rfl
 ·rename_i l hl
  rw [hl] at h;simp only [Bool.or_eq_true,Bool.and_eq_true,decide_eq_true_eq,List.mem_append] at *;rcases h with h | ⟨h1,h2⟩
  ·exact .inl h
  ·exact .inr ⟨h1,.inl h2⟩
theorem fits_iff:bP G so U dn bt p=true↔(so p<3->(fB so bt (so p):Int)≠U (so p))/\∀j,j<p->cO G dn bt p j=true:=by
 unfold bP;simp only [Bool.and_eq_true,Bool.not_eq_true',Bool.and_eq_false_iff,decide_eq_false_iff_not,List.all_eq_true,List.mem_range]
 constructor
 ·rintro ⟨h1,h2⟩;exact ⟨fun h=>h1.elim (fun z=>absurd h z) id,h2⟩
 ·rintro ⟨h1,h2⟩;refine ⟨?_,h2⟩
  by_cases h:so p<3
  ·exact .inr (h1 h)
  ·exact .inl h
theorem Fine.mono{ms ms':List Nat}(h:Fine G so U dn ms b)(hs:ms.Sublist ms'):Fine G so U dn ms' b:=⟨h.sub.trans hs,h.lean,h.load⟩
theorem Fine.add{ms:List Nat}(h:Fine G so U dn ms b)(hf:bP G so U dn b p=true):Fine G so U dn (ms++[p]) (b++[p]):=by
 obtain ⟨h1,h2⟩:=fits_iff.mp hf;refine ⟨h.sub.append (List.Sublist.refl _),fun q hq j hj=>?_,fun s hs=>?_⟩
 ·rcases zq20.mp hq with hq | hq
  ·exact js (h.lean q hq j hj)
  ·rw [zq9.mp hq] at hj ⊢;exact js (h2 j hj)
 ·rw [vC];have:=h.load s hs
  by_cases e:so p=s
  ·have:=h1 Jlk;rw [zq2 e];rw [e] at this;omega
  ·rw [zq1 e];omega
theorem oQ{c:List Nat}(h:c∈gk G so U dn bt p):(bP G so U dn bt p=true/\c=bt++[p])\/c=bt:=by
 unfold gk at h;rcases zq20.mp h with h | h
 ·split at h
  ·exact .inl ⟨by assumption,zq9.mp h⟩
  ·cases h
 ·split at h
  ·exact .inr (zq9.mp h)
  ·cases h
theorem gv{dn:List Nat}:∀(ms pre:List Nat)(bts:List (List Nat)),(∀b∈bts,Fine G so U dn pre b)->∀b∈ms.foldl (bF G so U dn) bts,Fine G so U dn (pre++ms) b
 | [],pre,bts,h,b,hb=>by rw [g9];exact h b hb
 |p::ms,pre,bts,h,b,hb=>by
  have z:=gv ms (pre++[p]) (bF G so U dn bts p) (fun c hc=>by
   obtain ⟨b',hb',hc⟩:=zq103.mp hc;rcases oQ hc with ⟨hf,rfl⟩ | rfl
   ·exact (h _ hb').add hf
   ·exact (h _ hb').mono (qt ..)) b hb
  rwa [kR] at z
theorem ir(hU:∀s,s<3->0<U s)(h:b∈bY G so U n dn):Fine G so U dn (cj n dn) b:=by
 have z:=gv (G:=G) (so:=so) (U:=U) (dn:=dn) (cj n dn) [] [[]] (fun c hc=>by rw [zq9.mp hc];exact ⟨List.Sublist.refl _,fun p hp=>(by cases hp),fun s hs=>by have:=hU s hs;simp [fB];omega⟩) b (zq67.mp h).1
 rwa [qu] at z
theorem vM(h:b∈bY G so U n dn):∀p∈cj n dn,p∉b->bP G so U dn b p=false:=by intro p hp hb;have z:=(zq67.mp h).2;simp only [Bool.not_eq_true',iV,List.any_eq_false,Bool.and_eq_true,not_and,Bool.not_eq_true',decide_eq_false_iff_not] at z;simpa using z p hp hb
theorem miss_iff:p∈cj n dn↔p<n/\p∉dn:=by unfold cj;rw [zq67,zq33];simp
theorem fE:(cj n dn).Pairwise (· < ·):=List.Pairwise.filter _ zq120
def eY(G:Nat->Nat->Option Int)(so:Nat->Nat)(U:Nat->Int)(dn:List Nat)(b:List Nat)(p:Nat):List Nat:=if bP G so U dn b p=true then b++[p] else b
theorem oH{dn:List Nat}:∀(ms:List Nat)(b:List Nat)(bts:List (List Nat)),b∈bts->ms.foldl (eY G so U dn) b∈ms.foldl (bF G so U dn) bts
 | [],_,_,h=>h
 |p::ms,b,bts,h=>by
  refine oH ms _ _ (zq103.mpr (zn b h ?_));unfold eY gk
  cases hf:bP G so U dn b p<;>simp
theorem jG{dn:List Nat}:∀(ms:List Nat)(b:List Nat),∃e,ms.foldl (eY G so U dn) b=b++e/\∀q∈e,q∈ms
 | [],b=>zn ([]) Jll (fun q hq=>by cases hq)
 |p::ms,b=>by
  obtain ⟨e,h1,h2⟩:=jG ms (eY G so U dn b p);rw [vk,h1];unfold eY
  split
  ·exact zn (p::e) Jll (fun q hq=>by rcases zq11.mp hq with rfl | hq<;>simp_all)
  ·exact zn e rfl fun q hq=>b7 _ (h2 q hq)
theorem Bh{e:List Nat}{s:Nat}:fB so b s<=fB so (b++e) s:=by unfold fB;rw [List.countP_append];omega
theorem rh(hU:∀s,s<3->0<U s):(cj n dn).foldl (eY G so U dn) []∈bY G so U n dn:=by
 have hin:=oH (G:=G) (so:=so) (U:=U) (dn:=dn) (cj n dn) [] [[]] Jll;have hfin:=gv (G:=G) (so:=so) (U:=U) (dn:=dn) (cj n dn) [] [[]] (fun c hc=>by rw [zq9.mp hc];exact ⟨List.Sublist.refl _,fun p hp=>(by cases hp),fun s hs=>by have:=hU s hs;simp [fB];omega⟩) _ hin
 refine zq67.mpr ⟨hin,?_⟩;simp only [Bool.not_eq_true',iV,List.any_eq_false,Bool.and_eq_true,not_and,Bool.not_eq_true',decide_eq_false_iff_not];intro p hp hb hf;obtain ⟨pre,post,e⟩:=List.append_of_mem hp;have srt:=fE (n:=n) (dn:=dn);rw [e] at srt hb hf hfin;rw [qJ,vk] at hb hf hfin;obtain ⟨b0,hb0⟩:∃b0,b0=List.foldl (eY G so U dn) [] pre:=⟨_,rfl⟩
 rw [<- hb0] at hb hf hfin;obtain ⟨e2,h1,h2⟩:=jG (G:=G) (so:=so) (U:=U) (dn:=dn) post (eY G so U dn b0 p);rw [h1] at hb hf hfin;have srt2:=(List.pairwise_append.mp srt).2.1;rw [AA] at srt2;unfold eY at hb hf hfin
 by_cases hfb:bP G so U dn b0 p=true
 ·rw [zq2 hfb] at hb;exact hb Jll
 ·rw [zq1 hfb] at hf hfin;obtain ⟨f1,f2⟩:=fits_iff.mp hf;refine hfb (fits_iff.mpr ⟨fun hs hc=>?_,fun j hj=>?_⟩)
  ·have a:=hfin.load _ hs;have b:=Bh (so:=so) (b:=b0) (e:=e2) (s:=so p);exact f1 hs Jlk
  ·have z:=f2 j hj;unfold cO at z ⊢
   cases hg:G j p with
   |none=>rfl
   |some l=>
    rw [hg] at z;simp only [Bool.or_eq_true,Bool.and_eq_true,decide_eq_true_eq,List.mem_append] at z ⊢;rcases z with z | ⟨z1,z2 | z2⟩
    ·exact .inl z
    ·exact .inr ⟨z1,z2⟩
    ·have:=srt2.1 j (h2 j z2);omega
theorem tQ(hU:∀s,s<3->0<U s)(h:b∈bY G so U n dn)(hm:cj n dn≠[]):b≠[]:=by
 rintro rfl;obtain ⟨p,hp⟩:∃p,p∈cj n dn:=AB _ hm;have least:∀k p,p<=k->p∈cj n dn->∃q∈cj n dn,∀j,j<q->j∈dn:=by
  intro k
  induction k with
  |zero=>intro p hk hp;exact zn p hp (fun j hj=>Jlk)
  |succ k ih=>
   intro p hk hp
   by_cases ha:∀j,j<p->j∈dn
   ·exact zn p hp ha
   ·have:∃j,j<p/\j∉dn:=by apply kG;intro h';apply ha;intro j hj;apply kG;intro h'';exact h' (zn j hj h'')
    obtain ⟨j,hj,hjd⟩:=this;have:=(miss_iff.mp hp).1;exact ih j Jlk (miss_iff.mpr ⟨Jlk,hjd⟩)
 obtain ⟨q,hq,hall⟩:=least p p (zq6 _) hp;have z:=vM h q hq Jll;have y:bP G so U dn [] q=true:=by
  refine fits_iff.mpr ⟨fun hs hc=>?_,fun j hj=>?_⟩
  ·have:=hU _ hs;simp [fB] at hc;omega
  ·unfold cO
   split
   ·rfl
   ·simp [hall j hj]
 rw [y] at z
 cases z
theorem BH:p∈cS n dn b↔p<n/\(p∈dn\/p∈b):=by unfold cS;rw [zq67,zq33];simp
def Can(n:Nat)(dn:List Nat):Prop:=dn.Sublist (List.range n)
theorem mt:Can n (cS n dn b):=List.filter_sublist
theorem Can.lt(h:Can n dn)(hp:p∈dn):p<n:=zq33.mp (h.subset hp)
theorem Can.sorted(h:Can n dn):dn.Pairwise (· < ·):=List.Pairwise.sublist h zq120
theorem kn:∀{a b:List Nat},a.Pairwise (· < ·)->b.Pairwise (· < ·)->(∀p,p∈a↔p∈b)->a=b
 | [],[],_,_,_=>rfl
 | [],y::b,_,_,h=>absurd ((h y).mpr Jll) Jll
 |x::a,[],_,_,h=>absurd ((h x).mp Jll) Jll
 |x::a,y::b,ha,hb,h=>by
  rw [AA] at ha hb;have exy:x=y:=by
   have h1:=(h x).mp Jll;have h2:=(h y).mpr Jll;rcases zq11.mp h1 with e | h1
   ·exact e
   ·rcases zq11.mp h2 with e | h2
    ·exact e.symm
    ·have:=ha.1 y h2;have:=hb.1 x h1;omega
  subst exy;rw [kn ha.2 hb.2 fun p=>?_]
  constructor
  ·intro hp;rcases zq11.mp ((h p).mp (b7 _ hp)) with e | z
   ·have:=ha.1 p hp;omega
   ·exact z
  ·intro hp;rcases zq11.mp ((h p).mpr (b7 _ hp)) with e | z
   ·have:=hb.1 p hp;omega
   ·exact z
theorem Can.miss(h:Can n dn)(hne:dn≠List.range n):cj n dn≠[]:=by
 intro e;apply hne;refine kn h.sorted zq120 fun p=>⟨fun hp=>zq33.mpr (h.lt hp),fun hp=>?_⟩
 apply kG;intro hd;have:=miss_iff.mpr ⟨zq33.mp hp,hd⟩;rw [e] at this
 cases this
theorem Can.len(h:Can n dn):dn.length<=n:=by have:=h.length_le;rwa [cX] at this
theorem Can.len_lt(h:Can n dn)(hne:dn≠List.range n):dn.length<n:=by
 rcases Nat.lt_or_ge dn.length n with z | z
 ·exact z
 ·exact absurd (h.eq_of_length (by rw [cX];have:=h.len;omega)) hne
theorem Lay.can{bss:List (List Nat)}(h:Lay G so U n bss dn):Can n dn:=by
 cases h with
 |nil=>exact List.nil_sublist _
 |snoc=>exact mt
theorem jO(h:Can n dn)(hb:b.Sublist (cj n dn)):(dn++b).Perm (cS n dn b):=by have hbm:∀p∈b,p<n/\p∉dn:=fun p hp=>miss_iff.mp (hb.subset hp);have nb:b.Nodup:=(List.Pairwise.sublist hb fE).imp fun h=>cf h;have nd:dn.Nodup:=h.sorted.imp fun h=>cf h;have nk:(cS n dn b).Nodup:=(mt (n:=n) (dn:=dn) (b:=b)).sorted.imp fun h=>cf h;have nab:(dn++b).Nodup:=zq65.mpr (zAB nd nb (fun x hx y hy e=>by subst e;exact (hbm x hy).2 hx));refine (List.perm_ext_iff_of_nodup nab nk).mpr fun p=>?_;rw [BH,zq20];exact ⟨fun z=>⟨z.elim (fun z=>h.lt z) fun z=>(hbm p z).1,z⟩,fun z=>z.2⟩
theorem BB(h:Can n dn)(hb:b.Sublist (cj n dn)):(cS n dn b).length=dn.length+b.length:=by rw [<- (jO h hb).length_eq,zq8]
theorem iC{acc:List (List Nat×List (List Nat))}{k:List Nat}{v:List (List Nat)}{x:List Nat×List (List Nat)}(h:x∈i6 acc k v):x∈acc\/x=(k,v):=by
 unfold i6 at h
 split at h
 ·exact .inl h
 ·rcases zq20.mp h with h | h
  ·exact .inl h
  ·exact .inr (zq9.mp h)
theorem zH{acc:List (List Nat×List (List Nat))}{k:List Nat}{v:List (List Nat)}:k∈(i6 acc k v).map (·.1):=by
 unfold i6
 split
 ·assumption
 ·simp
theorem wM{acc:List (List Nat×List (List Nat))}{k:List Nat}{v:List (List Nat)}{x:List Nat×List (List Nat)}(h:x∈acc):x∈i6 acc k v:=by
 unfold i6
 split
 ·exact h
 ·exact fk _ h
theorem sd{acc:List (List Nat×List (List Nat))}{k:List Nat}{v:List (List Nat)}(h:(acc.map (·.1)).Nodup):((i6 acc k v).map (·.1)).Nodup:=by
 unfold i6
 split
 ·exact h
 ·rename_i hk
  rw [cq,zq65];exact zAB h Jll (fun x hx y hy e=>by subst e;rw [List.map_singleton,zq9] at hy;subst hy;exact hk hx)
structure WOk(G:Nat->Nat->Option Int)(so:Nat->Nat)(U:Nat->Int)(n r:Nat)(ws:List (List Nat×List (List Nat))):Prop where
 lay:∀w∈ws,Lay G so U n w.2 w.1/\w.2.length=r
 nodup:(ws.map (·.1)).Nodup
theorem WOk.set{acc:List (List Nat×List (List Nat))}{bss:List (List Nat)}(h:WOk G so U n (r+1) acc)(hl:Lay G so U n bss dn)(hr:bss.length=r)(hb:b∈bY G so U n dn):WOk G so U n (r+1) (i6 acc (cS n dn b) (bss++[b])):=
 ⟨fun w hw=>by
  rcases iC hw with hw | rfl
  ·exact h.lay w hw
  ·exact ⟨hl.snoc hb,by simp [hr]⟩,sd h.nodup⟩
theorem WOk.add{w:List Nat×List (List Nat)}(hl:Lay G so U n w.2 w.1)(hr:w.2.length=r):∀(bs:List (List Nat)) (acc:List (List Nat×List (List Nat))),(∀b∈bs,b∈bY G so U n w.1)->WOk G so U n (r+1) acc->WOk G so U n (r+1) (eg n acc w bs)
 | [],_,_,h=>h
 |b::bs,acc,hb,h=>WOk.add hl hr bs _ (fun c hc=>hb c (b7 _ hc)) (h.set hl hr (hb b Jll))
theorem WOk.step:∀(ws acc:List (List Nat×List (List Nat))),(∀w∈ws,Lay G so U n w.2 w.1/\w.2.length=r)->WOk G so U n (r+1) acc->WOk G so U n (r+1) (ws.foldl (fun acc w=>eg n acc w (bY G so U n w.1)) acc)
 | [],_,_,h=>h
 |w::ws,acc,hw,h=>WOk.step ws _ (fun x hx=>hw x (b7 _ hx)) (WOk.add (hw w Jll).1 (hw w Jll).2 _ _ (fun _ h=>h) h)
theorem ic:∀r,WOk G so U n r (c9 G so U n r)
 |0=>⟨fun w hw=>by rw [c9,zq9] at hw;subst hw;exact ⟨.nil,rfl⟩,by simp [c9]⟩
 |r+1=>WOk.step _ _ (ic r).lay ⟨fun w hw=>(by cases hw),Jll⟩
theorem ik{w x:List Nat×List (List Nat)}:∀(bs:List (List Nat)) (acc:List (List Nat×List (List Nat))),x∈acc->x∈eg n acc w bs
 | [],_,h=>h
 |b::bs,acc,h=>ik bs _ (wM h)
theorem nG{w:List Nat×List (List Nat)}{b:List Nat}:∀(bs:List (List Nat)) (acc:List (List Nat×List (List Nat))),b∈bs->cS n w.1 b∈(eg n acc w bs).map (·.1)
 | [],_,h=>by cases h
 |c::bs,acc,h=>by
  rcases zq11.mp h with rfl | h
  ·obtain ⟨x,hx,e⟩:=zq43.mp (zH (acc:=acc) (k:=cS n w.1 b) (v:=w.2++[b]));exact zq43.mpr (zn x (ik bs _ hx) e)
  ·exact nG bs _ h
theorem m8{x:List Nat×List (List Nat)}:∀(ws acc:List (List Nat×List (List Nat))),x∈acc->x∈ws.foldl (fun acc w=>eg n acc w (bY G so U n w.1)) acc
 | [],_,h=>h
 |w::ws,acc,h=>m8 ws _ (ik _ _ h)
theorem pW{w:List Nat×List (List Nat)}{b:List Nat}(hb:b∈bY G so U n w.1):∀(ws acc:List (List Nat×List (List Nat))),w∈ws->cS n w.1 b∈(ws.foldl (fun acc w=>eg n acc w (bY G so U n w.1)) acc).map (·.1)
 | [],_,h=>by cases h
 |c::ws,acc,h=>by
  rcases zq11.mp h with rfl | h
  ·obtain ⟨x,hx,e⟩:=zq43.mp (nG (n:=n) (w:=w) (bY G so U n w.1) acc hb);exact zq43.mpr (zn x (m8 ws _ hx) e)
  ·exact pW hb ws _ h
theorem v0(hU:∀s,s<3->0<U s):∀r,c9 G so U n r≠[]
 |0=>by simp [c9]
 |r+1=>by
  obtain ⟨w,hw⟩:=AB _ (v0 hU r);have z:=pW (rh (G:=G) (so:=so) hU (n:=n) (dn:=w.1)) (c9 G so U n r) [] hw;intro e;rw [c9,DW] at e;rw [e] at z
  cases z
theorem qg(hU:∀s,s<3->0<U s):∀r,(∀k,k<r->List.range n∉(c9 G so U n k).map (·.1))->∀w∈c9 G so U n r,r<=w.1.length
 |0,_,w,_=>bT _
 |r+1,hn,w,hw=>by
  have ih:=qg hU r fun k hk=>hn k Jlk;have hno:=hn r Jlk;have key:∀(ws acc:List (List Nat×List (List Nat))),(∀w∈ws,Can n w.1/\w.1≠List.range n/\r<=w.1.length)->(∀w∈acc,r+1<=w.1.length)->∀w∈ws.foldl (fun acc w=>eg n acc w (bY G so U n w.1)) acc,r+1<=w.1.length:=by
   intro ws
   induction ws with
   |nil=>intro acc _ h;exact h
   |cons v ws ihw=>
    intro acc h1 h2;refine ihw _ (fun x hx=>h1 x (b7 _ hx)) ?_;obtain ⟨c1,c2,c3⟩:=h1 v Jll;have inner:∀(bs:List (List Nat)) (acc:List (List Nat×List (List Nat))),(∀b∈bs,b∈bY G so U n v.1)->(∀w∈acc,r+1<=w.1.length)->∀w∈eg n acc v bs,r+1<=w.1.length:=by
     intro bs
     induction bs with
     |nil=>intro acc _ h;exact h
     |cons b bs ihb=>
      intro acc h3 h4;refine ihb _ (fun c hc=>h3 c (b7 _ hc)) fun x hx=>?_;rcases iC hx with hx | rfl
      ·exact h4 x hx
      ·have hb:=h3 b Jll;have ne:=tQ hU hb (c1.miss c2);have:=zq62.mpr ne;show r+1<=(cS n v.1 b).length;rw [BB c1 (ir hU hb).sub];omega
    exact inner _ _ (fun _ h=>h) h2
  exact key _ _ (fun x hx=>zAB ((ic r).lay x hx).1.can (fun e=>hno (zq43.mpr (zn x hx e))) (ih x hx)) (fun _ h=>by cases h) w hw
theorem CJ(hU:∀s,s<3->0<U s)(hn:∀k,k<=r->List.range n∉(c9 G so U n k).map (·.1)):r<n:=by obtain ⟨w,hw⟩:=AB _ (v0 (G:=G) (so:=so) (U:=U) (n:=n) hU r);have h1:=qg hU r (fun k hk=>hn k Jlk) w hw;have h2:=((ic r).lay w hw).1.can.len_lt fun e=>hn r (zq6 _) (zq43.mpr (zn w hw e));omega
theorem iw{dn:List Nat}:∀(bts:List (List Nat)) (p:Nat),(bF G so U dn bts p).length<=2 * bts.length
 | [],_=>by simp [bF]
 |b::bts,p=>by
  have:=iw (dn:=dn) bts p;have h1:(gk G so U dn b p).length<=2:=by
   unfold gk;rw [zq8];have a:(if bP G so U dn b p=true then [b++[p]] else []).length<=1:=by split<;>simp
   have c:(if bP G so U dn b p=false\/so p<3 then [b] else []).length<=1:=by split<;>simp
   omega
  unfold bF at *;rw [List.flatMap_cons,zq8,d5];omega
theorem jH{dn:List Nat}:∀(ms:List Nat)(bts:List (List Nat)),(ms.foldl (bF G so U dn) bts).length<=2 ^ ms.length * bts.length
 | [],bts=>by simp
 |p::ms,bts=>by
  have a:=jH (dn:=dn) ms (bF G so U dn bts p);have b:=iw (G:=G) (so:=so) (U:=U) (dn:=dn) bts p;rw [vk,d5,Nat.pow_succ]
  calc _<=_:=a
   _<=2 ^ ms.length * (2 * bts.length):=Nat.mul_le_mul_left _ b
   _=_:=by rw [Nat.mul_assoc]
def sh:List Nat->List (List Nat)
 | []=>[[]]
 |x::xs=>sh xs++(sh xs).map (x::·)
theorem pZ:∀xs,(sh xs).length=2 ^ xs.length
 | []=>rfl
 |x::xs=>by rw [sh,zq8,zq4,pZ xs,d5,Nat.pow_succ];omega
theorem jP:∀{xs ys:List Nat},ys.Sublist xs->ys∈sh xs
 |_,_,.slnil=>by simp [sh]
 |_,_,.cons _ h=>fk _ (jP h)
 |_,_,.cons₂ _ h=>cW _ (zq43.mpr (zn _ (jP h) rfl))
theorem iA{α:Type}[DecidableEq α]:∀{L M:List α},L.Nodup->(∀x∈L,x∈M)->L.length<=M.length
 | [],M,_,_=>bT _
 |x::L,M,h,hm=>by rw [zq42] at h;have z:=iA (M:=M.erase x) h.2 fun y hy=>(List.mem_erase_of_ne (fun e=>h.1 (by rw [<- e];exact hy))).mpr (hm y (b7 _ hy));rw [Ea (hm x Jll)] at z;have:=Eb (hm x Jll);rw [d5];omega
theorem WOk.len{ws:List (List Nat×List (List Nat))}(h:WOk G so U n r ws):ws.length<=2 ^ n:=by
 have z:=iA (M:=sh (List.range n)) h.nodup fun k hk=>by obtain ⟨w,hw,e⟩:=zq43.mp hk;rw [<- e];exact jP (h.lay w hw).1.can
 rwa [zq4,pZ,cX] at z
end
end GD
section
open PySem PySem.Spec PyProof.Rows
namespace L2
variable {d:Addr}
section
variable {prog:Program} {w:World} {A:Around} {E:Value->Shared->Prop} {s:Shared}
theorem pJ{κ:Type}[DecidableEq κ]{knd:HeapKind prog w κ}{a:Addr}{xs:List (κ×Addr×Value)}{k:κ}{v:Value}{Q:Value->Shared->Prop}(hu:knd.room A)(hkey:knd.is s.heap k a)(hm:s.heap.DictOfH knd d xs)
 (h1:∀p,atKey xs k=some p->Q p.2 {s with toks:=s.toks+knd.draws k})
 (h2:atKey xs k=none->∀h',h'.DictOfH knd d (xs++[(k,a,v)])->Heap.SameBut d s.heap h'->Q v {s with heap:=h',toks:=s.toks+knd.draws k})
 (hsz:xs.length<=sizeLine):wpAny (model prog w) A (dictSetDefault d (.ref a) v) Q E s:=by
 obtain ⟨o,es,ep,ho,hc,hd,he,his,hn⟩:=hm;unfold dictSetDefault
 try with_reducible refine kD ?_
 refine zq0 (knd.pyHash hu hkey (zq0 (wpAny_dictFind_heap (s:={s with toks:=s.toks+knd.draws k}) hu hkey ho hd he his hn ?_ ?_)))
 ·intro hno;have hat:=atKey_none_of_get hno;have hnot:=not_mem_keys_of_get hno;refine zq0 (wpAny_rule (zq0 (wpAny_updateDictKeys (hz:=by have e:=size_of_entries he;omega) (s:={s with toks:=s.toks+knd.draws k}) ho hd (zq3 (h2 hat _ ⟨_,_,ep+1,sI _ ho (Obj.isFreed_of_dict (Obj.data_mapDictKeys hd _)),
   hc.mapDictKeys _,Obj.data_mapDictKeys hd _,by simp [he,entryOfKey],fun x hx=>?_,?_⟩ (Heap.SameBut.update ..))))))
  ·rcases zq20.mp hx with hx | hx
   ·exact knd.keeps (his x hx) ho hd (Heap.SameBut.update ..)
   ·rw [zq9.mp hx];exact knd.keeps hkey ho hd (Heap.SameBut.update ..)
  ·rw [cq,zq65];refine zAB hn Jll fun x hx y hy e=>?_;simp only [List.map_cons,List.map_nil,List.mem_singleton] at hy;subst hy;exact hnot (e ▸ hx)
 ·intro j p hj;have hat:=atKey_of_get hn hj;refine zq0 (wpAny_dictEntries (s:={s with toks:=s.toks+knd.draws k}) ho hd ?_);rw [entry_at he j,hj];exact zq0 (wpAny_rule (zq3 (h1 p hat)))
theorem gm{κ:Type}[DecidableEq κ](knd:HeapKind prog w κ)(d a:Addr)(hd:(d==sysModules)=false)(dflt:Value):
  MeetsIn prog w (Builtin.«dict.setdefault» ⟨[.ref d,.ref a,dflt],[]⟩) (fun A R s=>knd.room A.in1/\∃k xs,knd.is s.heap k a/\s.heap.DictOfH knd d xs/\xs.length<=sizeLine/\
   (∀p,atKey xs k=some p->R (.ok (.ret p.2)) {s with toks:=s.toks+knd.draws k})/\
   (atKey xs k=none->∀h',h'.DictOfH knd d (xs++[(k,a,dflt)])->Heap.SameBut d s.heap h'->R (.ok (.ret dflt)) {s with heap:=h',toks:=s.toks+knd.draws k})):=
 .of_wp fun A R s ⟨hu,k,xs,hkey,hm,hz,h1,h2⟩=>by unfold Builtin.«dict.setdefault»;refine zq0 ?_;unfold Builtin.Dict.keyAndDefault;refine zq0 (wpAny_notOrdered_dict hm.typeIs ?_);show wpAny _ _ (pure (d,Value.ref a,some dflt)) _ _ s;refine zq3 ?_;show wpAny _ _ (if (d==sysModules)=true then _ else (dictSetDefault d (.ref a) dflt >>= _)) _ _ s;rw [zq1 (by rw [hd];exact bz)];exact zq0 (pJ (hsz:=hz) hu hkey hm (fun p hp=>zq3 (zn p.2 rfl (h1 p hp))) fun hn h' hm' hs'=>zq3 (zn dflt rfl (h2 hn h' hm' hs')))
theorem nU{od:Obj}{Q:Value->Shared->Prop}(hd:(d==sysModules)=false)(hod:s.heap.get? d=some od)(hx:od.ExactDict)
 (h:Q (.ref s.heap.objs.size) {s with heap:=s.heap.push {cls:=.type "dict_items",data:=.fields #[.ref d]}}):wpAny (model prog w) A (call (.builtin "dict.items") [.ref d]) Q E s:=by
 have hT:s.TypeIs (.ref d) "dict":=zn od hod hx.1
 have M:MeetsIn prog w (Builtin.«dict.items» ⟨[.ref d],[]⟩) (fun _ R s=>s.TypeIs (.ref d) "dict"/\R (.ok (.ret (.ref s.heap.objs.size))) {s with heap:=s.heap.push {cls:=.type "dict_items",data:=.fields #[.ref d]}}):=.of_wp fun A R s ⟨hT,h⟩=>by unfold Builtin.«dict.items»;refine zq0 ?_;unfold Builtin.Dict.noArgs;refine zq0 (wpAny_notOrdered_dict hT ?_);show wpAny _ _ (pure d) _ _ s;refine zq3 ?_;show wpAny _ _ (Builtin.Dict.showsAll d >>= _) _ _ s;unfold Builtin.Dict.showsAll;rw [zq1 (by rw [hd];exact bz)];refine zq0 (zq3 ?_);exact zq0 (wpAny_newObj_type (zq3 (zn _ rfl h)))
 exact call_meetsIn PySem.F.slot_dict_items hT PySem.F.entry_dict_items (PySem.F.args_dict_items_1 _) M ⟨hT,h⟩
theorem oN{v d:Addr}{od:Obj}{es:Array DictEntry}{ep:Nat}{Q:Value->Shared->Prop}(hv:s.heap.IsItemsView v d)(ho:s.heap.get? d=some od)(hd:od.data=.dict es ep)
  (hQ:Q (.ref s.heap.objs.size) {s with heap:=s.heap.push {cls:=.type "dict_itemiterator",data:=.fields #[.none,.bool false,.ref d,.int 0 0,.int es.size 0,.int ep 0,.none,.none]}}) :
  wpAny (model prog w) A (pyIter (.ref v)) Q E s:=by
 obtain ⟨ov,hov,hcv,hdv⟩:=id hv;refine wpAny_pyIter_slot hv.typeIs F.slot_dict_items_iter (wpAny_call_entry F.slot_dict_items_iter hv.typeIs F.entry_dict_items_iter ?_ (F.args_dict_items_iter_1 _));unfold Builtin.«dict_items.__iter__»;refine zq0 (zq3 (zq0 ?_));unfold Builtin.Dict_items.dictOf;refine zq0 (wpAny_field hov hdv (x:=.ref d) rfl (zq3 (zq0 ?_)));unfold Builtin.Dict_items.newIterator;refine zq0 (wpAny_dictEntries ho hd (zq0 (wpAny_dictEpoch ho hd ?_)));rw [show Builtin.Dict_items.ownsTuple "dict_itemiterator"=true by decide];simp only [if_true];refine wpAny_newObj_type (zq3 (zn _ rfl (zAA ("dict_itemiterator") _ (zn _ (cF _ rfl) rfl) F.slot_dict_itemiterator_next.lookup ?_)))
  (by simp only [sizeOk,Builtin.Dict_items.ownedTupleFields,List.size_toArray,List.length_append,List.length_cons,List.length_nil,sizeLine_eq];omega)
 simpa [rawInt,Builtin.Dict_items.ownedTupleFields] using hQ
theorem oW{it d:Addr}{i ep:Nat}{od:Obj}{es:Array DictEntry}{en:DictEntry}{ok ov:Value}{Q:Option Value->Shared->Prop}(hit:IsItemIter s.heap it d i es.size ep ok ov)
  (hod:s.heap.get? d=some od) (hdd:od.data=.dict es ep) (hx:es[i]?=some en)
  (hQ:∀h',IsItemIterOut h' it d (i+1) es.size ep en.key en.val s.heap.objs.size->h'.get? s.heap.objs.size=some {cls:=.type "tuple",data:=.seq #[en.key,en.val]}->h'.objs.size=s.heap.objs.size+1->
   (∀b o,b≠it->s.heap.get? b=some o->h'.get? b=some o)->Q (some (.ref s.heap.objs.size)) {s with heap:=h'}) :
  wpAny (model prog w) A (pyNext (.ref it)) Q E s:=by
 obtain ⟨hp,g,dr,tk,os⟩:=s;have hT:Shared.TypeIs ⟨hp,g,dr,tk,os⟩ (.ref it) "dict_itemiterator":=zn _ hit rfl
 have hown:Builtin.Dict_items.ownsTuple "dict_itemiterator"=true:=by decide
 have hlt:i<es.size:=(zq91.mp hx).1;unfold pyNext;refine zq0 (wpAny_attempt (wpAny_callSpecial?_slot (name:=Str.ofString "__next__") hT F.slot_dict_itemiterator_next (wpAny_call_entry F.slot_dict_itemiterator_next hT F.entry_dict_itemiterator_next ?_ (F.args_dict_itemiterator_next_1 _))));refine zq0 (zq3 (zq0 (zq0 ?_)))
 first | refine zq0 (wpAny_typeNameOfWhole_itemiter hT (zq3 ?_)) | refine zq0 (wpAny_typeNameOf_itemiter hT (zq3 ?_))
 refine zq0 (wpAny_fieldsOf hit rfl ?_);simp only [hown,if_true];show wpAny _ _ (if (Value.ref d==Value.none)=true then _ else _) _ _ _;rw [zq1 (show ¬((Value.ref d==Value.none)=true) from bz)];refine zq0 (zq3 (zq0 (wpAny_dictEntries hod hdd ?_)));rw [zq1 Jll];refine zq0 (zq3 (zq0 (wpAny_dictEpoch hod hdd ?_)));rw [zq1 Jll];refine zq3 ?_;simp only [show ¬((i:Int)<0) from by omega,if_false,Int.toNat_natCast,hx];refine zq0 ?_
 first | refine zq0 (wpAny_typeNameOfWhole_itemiter hT (zq3 ?_)) | refine zq0 (wpAny_typeNameOf_itemiter hT (zq3 ?_))
 refine zq0 (wpAny_isOneOf_itemiter hT ?_);show wpAny _ _ (setField (.ref it) 3 (rawInt ((i:Int)+1)) >>= _) _ _ ⟨hp,g,dr,tk,os⟩;refine zq0 (wpAny_setField_rec hit Jll fun h₁ he₁ hs₁=>?_);replace hs₁:Heap.SameBut it hp h₁:=hs₁;replace he₁:IsItemIter h₁ it d (i+1) es.size ep ok ov:=by
  have e:((i+1:Nat):Int)=(i:Int)+1:=by omega
  unfold IsItemIter;rw [e];simpa [rawInt] using he₁
 have hT₁:Shared.TypeIs ⟨h₁,g,dr,tk,os⟩ (.ref it) "dict_itemiterator":=zn _ he₁ rfl
 refine zq0 (kD (zq0 (wpAny_isOneOf_itemiter hT₁ (zq0 (wpAny_isOneOf_itemiter hT₁ ?_)))));show wpAny _ _ (Builtin.Dict_items.pairFromOwner (.ref it) 6 en.key en.val) _ _ ⟨h₁,g,dr,tk,os⟩;unfold Builtin.Dict_items.pairFromOwner;refine zq0 (wpAny_newTuple ?_);have he₂:IsItemIter (h₁.push {cls:=.type "tuple",data:=.seq #[en.key,en.val]}) it d (i+1) es.size ep ok ov:=bO _ he₁;have hz₁:h₁.objs.size=hp.objs.size:=hs₁.1;have hil:it<hp.objs.size:=bH hit;have ht₂:(h₁.push {cls:=.type "tuple",data:=.seq #[en.key,en.val]}).get? hp.objs.size=some {cls:=.type "tuple",data:=.seq #[en.key,en.val]}:=by rw [<- hz₁];exact cF _ rfl
 have hz₂:(h₁.push {cls:=.type "tuple",data:=.seq #[en.key,en.val]}).objs.size=hp.objs.size+1:=by rw [iI,hz₁]
 have hk₂:∀b o,b≠it->hp.get? b=some o->(h₁.push {cls:=.type "tuple",data:=.seq #[en.key,en.val]}).get? b=some o:=fun b o hb e=>bO _ (hs₁.extBut b o hb e);generalize h₁.push {cls:=.type "tuple",data:=.seq #[en.key,en.val]}=h₂ at he₂ ht₂ hz₂ hk₂ ⊢;show wpAny _ _ (Builtin.Dict_items.ownedTupleIsFree (.ref it) >>= _) _ _ ⟨h₂,g,dr,tk,os⟩;rw [hz₁];clear he₁ hs₁ hT₁ hz₁ h₁;refine zq0 ?_;unfold Builtin.Dict_items.ownedTupleIsFree;refine zq0 (wpAny_field he₂ rfl (x:=.none) rfl (zq3 ?_));simp only [if_true];refine zq0 (wpAny_field he₂ rfl (x:=ok) rfl (zq0 (wpAny_field he₂ rfl (x:=ov) rfl ?_)));refine zq0 (wpAny_setField_rec he₂ Jll fun h₃ he₃ hs₃=>?_);replace hs₃:Heap.SameBut it h₂ h₃:=hs₃;replace he₃:IsItemIter h₃ it d (i+1) es.size ep en.key ov:=he₃;refine zq0 (wpAny_setField_rec he₃ Jll fun h₄ he₄ hs₄=>?_);replace hs₄:Heap.SameBut it h₃ h₄:=hs₄;replace he₄:IsItemIter h₄ it d (i+1) es.size ep en.key en.val:=he₄;refine zq0 (wpAny_setField_rec he₄ Jll fun h₅ he₅ hs₅=>?_);replace hs₅:Heap.SameBut it h₄ h₅:=hs₅;replace he₅:IsItemIterOut h₅ it d (i+1) es.size ep en.key en.val hp.objs.size:=he₅;refine zq0 (wpAny_setField_rec he₅ Jll fun h₆ he₆ hs₆=>?_);replace hs₆:Heap.SameBut it h₅ h₆:=hs₆;replace he₆:IsItemIterOut h₆ it d (i+1) es.size ep en.key en.val hp.objs.size:=he₆;have kp:∀b o,b≠it->h₂.get? b=some o->h₆.get? b=some o:=fun b o hb e=>hs₆.extBut b o hb (hs₅.extBut b o hb (hs₄.extBut b o hb (hs₃.extBut b o hb e)));refine zq0 (wpAny_letGo (zq3 (zq3 (zn _ rfl (zq3 (hQ h₆ he₆ (kp _ _ (sH hil) ht₂) ?_ fun b o hb e=>kp b o hb (hk₂ b o hb e)))))));show h₆.objs.size=hp.objs.size+1;rw [hs₆.1,hs₅.1,hs₄.1,hs₃.1,hz₂]
theorem qW{it:Addr}{i ep:Nat}{od:Obj}{es:Array DictEntry}{ok ov:Value}{Q:Option Value->Shared->Prop}(hh:A.handled=none)(hit:IsItemIter s.heap it d i es.size ep ok ov)
 (hod:s.heap.get? d=some od) (hdd:od.data=.dict es ep) (hx:es.size<=i)
 (hQ:∀h',Heap.ExtBut it s.heap h'->Q none {s with heap:=h'}):wpAny (model prog w) A (pyNext (.ref it)) Q E s:=by
 have hT:s.TypeIs (.ref it) "dict_itemiterator":=zn _ hit rfl
 have hown:Builtin.Dict_items.ownsTuple "dict_itemiterator"=true:=by decide
 unfold pyNext;refine zq0 (wpAny_attempt (wpAny_callSpecial?_slot (name:=Str.ofString "__next__") hT F.slot_dict_itemiterator_next (wpAny_call_entry F.slot_dict_itemiterator_next hT F.entry_dict_itemiterator_next ?_ (F.args_dict_itemiterator_next_1 _))));refine zq0 (zq3 (zq0 (zq0 ?_)))
 first | refine zq0 (wpAny_typeNameOfWhole_itemiter hT (zq3 ?_)) | refine zq0 (wpAny_typeNameOf_itemiter hT (zq3 ?_))
 refine zq0 (wpAny_fieldsOf hit rfl ?_);simp only [hown,if_true];show wpAny _ _ (if (Value.ref d==Value.none)=true then _ else _) _ _ s;rw [zq1 (show ¬((Value.ref d==Value.none)=true) from bz)];refine zq0 (zq3 (zq0 (wpAny_dictEntries hod hdd ?_)));rw [zq1 Jll];refine zq0 (zq3 (zq0 (wpAny_dictEpoch hod hdd ?_)));rw [zq1 Jll];refine zq3 ?_;simp only [show ¬((i:Int)<0) from by omega,if_false,Int.toNat_natCast,Array.getElem?_eq_none hx];refine zq0 ?_
 first | refine zq0 (wpAny_typeNameOfWhole_itemiter hT (zq3 ?_)) | refine zq0 (wpAny_typeNameOf_itemiter hT (zq3 ?_))
 show wpAny _ _ (setField (.ref it) 2 .none >>= _) _ _ s;refine zq0 (wpAny_setField hit rfl Jll ?_);show wpAny _ _ (newExc (.type "StopIteration") [] >>= _) _ _ _;refine zq0 ?_;simp only [newExc,newTuple];refine zq0 (wpAny_newObj_type ?_ (by size_fits));refine zq0 (m:=firstArgMember _ _) (wpAny_of_eq (a:=Value.none) (by first | rfl | (simp only [firstArgMember];rfl)) ?_);refine wpAny_newObj_type ?_ (by size_fits);simp only [raiseNew];refine zq0 (wpAny_handled ?_);rw [show A.in1.handled=none from hh];refine zq0 (zq3 (wpAny_throw ?_));refine zq0 (wpAny_isInstance (T:="StopIteration") (b:=true) ⟨_,cF _ rfl,rfl⟩ isSubtype_stop ?_);exact zq3 (hQ _ (((Heap.SameBut.update ..).extBut.push _).push _))
end
end L2
namespace L2
variable {H:Hp} {Q:VK} {σ:St}
def mi(d:Addr)(o:Obj)(kvs:List (List Key×V)):It:=
  ⟨fun i H=>H d=some (.frz o (.dT kvs))/\i<kvs.length,
   fun i H x H'=>∃p k b v,x=.ref p/\H p=none/\H'=upd H p (.tup [.ref b,v])/\kvs[i]?=some (k,v)/\H b=some (.tup (k.map kV)),
   fun i H=>H d=some (.frz o (.dT kvs))/\kvs.length<=i⟩
theorem Paired.at{α β:Type}{F:α->β->Prop}:∀{l:List α} {m:List β} {i:Nat} {x:α},Paired F l m->l[i]?=some x->∃y,m[i]?=some y/\F x y
 |_,_,_,_,.nil,e=>by simp at e
 |_,_,0,_,.cons r _,e=>by simp at e;subst e;exact zn _ rfl r
 |_,_,i+1,x,.cons _ t,e=>by obtain ⟨u,h1,h2⟩:=Paired.at (i:=i) (x:=x) t (by simpa using e);exact zn u (by simpa using h1) h2
theorem xT{P:Program}{w:World}{H:Hp}{h:Heap}{d:Addr}{o:Obj}{kvs:List (List Key×V)}(ok:HOk P w H h)(e:H d=some (.frz o (.dT kvs))){es:Array DictEntry}{ep:Nat}(ho:o.data=.dict es ep):
  h.get? d=some o/\es.size=kvs.length/\∀(i:Nat)(k:List Key)(v:V),kvs[i]?=some (k,v)->∃(hs:Int)(b:Addr)(u:Value),es[i]?=some (⟨hs,.ref b,u⟩:DictEntry)/\H b=some (.tup (k.map kV))/\RelV v u:=by
 obtain ⟨e1,z,hd,xs,rel,o',es',ep',e2,ex,hdat,hes,hn⟩:=ok d _ e;rw [e1] at e2
 cases e2
 rw [ho] at hdat
 cases hdat
 refine zAB e1 ((size_of_entries hes).trans (Paired.length rel).symm) fun i k v hk=>?_;obtain ⟨⟨k',b,u⟩,hx,h1,h2,h3⟩:=Paired.at rel hk;refine zAN ((tupleKind (bB P w)).hash k') b u ?_ h2 h3;rw [entry_at hes i,hx];rfl
theorem qX:entryFor table "dict_itemiterator.__iter__"=some Builtin.«dict_keyiterator.__iter__»:=entryFor_alias (id':="dict_keyiterator.__iter__") Jkl rfl Jkk Jkl
theorem vS{prog:Program}{w:World}{A:Around}{E:Value->Shared->Prop}{s:Shared}{it d:Addr}{i n ep:Nat}{ok ov:Value}{Q:Value->Shared->Prop}(he:IsItemIter s.heap it d i n ep ok ov)(h:Q (.ref it) s):wpAny (model prog w) A (pyIter (.ref it)) Q E s:=by
 have hT:s.TypeIs (.ref it) "dict_itemiterator":=zn _ he rfl
 refine wpAny_pyIter_slot hT F.slot_dict_itemiterator_iter (wpAny_call_entry F.slot_dict_itemiterator_iter hT qX ?_ (F.args_dict_itemiterator_iter_1 _));show wpAny _ _ (ret (.ref it)) _ _ s;exact zq3 (zn _ rfl (zAA ("dict_itemiterator") _ hT F.slot_dict_itemiterator_next.lookup h))
theorem sq{P:Program}{w:World}{K:W.Frag}{elts:List Expr}{k0:Nat}{pos0:Pos}(d it:Addr)(o:Obj){es:Array DictEntry}{ep:Nat}(ho:o.data=.dict es ep)(kvs:List (List Key×V)):
  kI P w K (.Tuple elts k0 pos0) (mi d o kvs) [it] it (fun i h=>∃ok ov,IsItemIter h it d i es.size ep ok ov) where
 mem:=by simp
 obj:=fun i h ⟨ok,ov,he⟩ b hb=>by
  have e:b=it:=by simpa using hb
  subst e;exact ⟨_,he,fun v z=>by
   have z':Data.fields _=Data.cell v:=z
   cases z'⟩
 keep:=fun i h h' ⟨ok,ov,he⟩ k=>zAH ok ov (k it Jll _ he)
 item:=by
  intro X hP hw hK hc i pins s σ H E I hf st hg;subst hP hw hK;obtain ⟨ok,ov,he⟩:=st;obtain ⟨hg1,hi⟩:=hg;obtain ⟨hd,hsz,hat⟩:=xT I.hok hg1 ho;obtain ⟨⟨k,v⟩,hk⟩:∃p,kvs[i]?=some p:=⟨_,zq5 hi⟩
  obtain ⟨hs0,b,u,hen,hb,ru⟩:=hat i k v hk;obtain ⟨f0,f1,f2,f3,f4,f5⟩:=hf it Jll;refine oW he hd ho hen fun h1 ho1 hT hz1 hk1=>?_;refine zn _ rfl (wpAny_letOwnedTupleGo_items ho1 fun h2 he2 hs2=>?_);replace hs2:Heap.SameBut it h1 h2:=hs2;have hlt:it<s.heap.objs.size:=bH he;have hk2:∀b o,b≠it->s.heap.get? b=some o->h2.get? b=some o:=fun b o b1 q=>(hs2.2 b b1).trans (hk1 b o b1 q);have hT2:h2.get? s.heap.objs.size=some {cls:=.type "tuple",data:=.seq #[.ref b,u]}:=(hs2.2 _ (sH hlt)).trans hT;have hn:H s.heap.objs.size=none:=I.hok.fresh (zq6 _);have nE:∀b v,H b=some v->b≠it:=fun b v q z=>by rw [z,f0] at q;cases q
  have ok2:HOk X.prog X.w H h2:=fun b v q=>(I.hok b v q).stay (fun c v' hc r=>by
   rcases hc with z | z
   ·exact hk2 c v' (by rw [z];exact nE b v q) r
   ·exact hk2 c v' (nE c _ z) r) (fun _ r=>r) fun _ _ r=>r
  have ok3:HOk X.prog X.w (upd H s.heap.objs.size (.tup [.ref b,v])) h2:=fun c w' q=>by
   by_cases hb':c=s.heap.objs.size
   ·subst hb';rw [ae] at q
    cases q
    exact ⟨by show 2<=sizeLine;decide,zn ([.ref b,u]) (.cons rfl (.cons ru .nil)) (zAC _ hT2 rfl ⟨_,rfl⟩)⟩
   ·rw [ao hb'] at q;exact (ok2 c w' q).stay (fun c v' _ r=>r) (fun c r=>by rw [ao (am r hn)];exact r) fun c ys r=>by rw [ao (am r hn)];exact r
  have nlt:∀{b:Addr} {o:Obj},s.heap.get? b=some o->b≠s.heap.objs.size:=fun q=>cf (bH q);have I2:Inv X pins σ (upd H s.heap.objs.size (.tup [.ref b,v])) {s with heap:=h2,toks:=s.toks}:=
   I.step (g':=s.gens) (d':=s.drawn) (ch:=[it]) (fun b hb=>by rw [zq9.mp hb];exact zAF f3 f1 f4 f5)
    (fun b o _ _ hc q _=>hk2 b o (fun z=>hc (by simp [z])) q)
    (fun b o _ _ hc q _=>⟨o.slots,hk2 b o (fun z=>hc (by simp [z])) q⟩)
    (fun b o _ q n=>by rw [ao (nlt q)];exact n)
    (fun b o hc q=>⟨o,hk2 b o (fun z=>hc (by simp [z])) q⟩)
    (fun b ys q=>by rw [ao (am q hn)];exact q) (fun b o v q=>by rw [ao (am q hn)];exact q) (fun b ps q=>⟨#[],by rw [ao (am q hn),q];simp⟩)
    (fun m ⟨o,es,ep,hm,r⟩=>zAK o es ep (hk2 _ o (Ne.symm f1) hm) r) ok3 I.bare
  refine zAP (.ref s.heap.objs.size) _ I2 rfl (zAM _ k b v rfl hn rfl hk hb) (zAH _ _ he2) fun c hc=>?_;rw [zq9.mp hc,ao (cf hlt)];exact f0
 done:=by intro X hP hw hK hc i pins s σ H E I hf st hg;subst hP hw hK;obtain ⟨ok,ov,he⟩:=st;obtain ⟨hg1,hi⟩:=hg;obtain ⟨hd,hsz,hat⟩:=xT I.hok hg1 ho;obtain ⟨f0,f1,f2,f3,f4,f5⟩:=hf it Jll;exact qW (I.ok.hd hc) he hd ho Jlk fun h' eb=>⟨rfl,I.turned (t':=s.toks) (fun b o hb e=>eb b o hb e) f0 f1 f3 f4 f5⟩
 self:=fun _ _ _ _ _ ⟨_,_,he⟩ h=>vS he h
def mC(td:TE):TI:=fun σ H R=>td σ H fun x H1=>∃a kvs,x=.ref a/\H1 a=some (.dT kvs)/\∀o,R (mi a o kvs) (upd H1 a (.frz o (.dT kvs)))
theorem ww{X:Cx}{o:Expr}{td:TE}{apos pos pos0:Pos}{elts:List Expr}{k0:Nat}(ho:PE X o td)(hbase:attributeBase o "items" X.env (eval o X.env)=eval o X.env:=by rfl) (hline:(apos.endLine==pos.line)=true:=by rfl) :
  PI X (.Tuple elts k0 pos0) (.Call (.Attribute o "items" apos) [] [] pos) (mC td):=by
 intro pins s σ H R I h;refine wpAny_Call_method0_late hbase hline (thn (ho pins s σ H _ I h) fun v s1 hhx=>?_);obtain ⟨x,H1,I1,r1,a,kvs,ex,e,q1⟩:=hhx;subst ex
 cases r1
 obtain ⟨h1,h2⟩:=sv (T:="dict") I1 (show RelV (.ref a) (.ref a) from rfl) (.inr (.inr (.inl ⟨rfl,.inr ⟨kvs,e⟩⟩)));refine zAZ ("dict") _ PySem.F.plainAttrs_dict PySem.F.slot_dict_items PySem.F.type_dict_items h1 h2 (Calls.callWith_builtin rfl (PySem.evalArgs_none ?_));have okd:=I1.hok a _ e;obtain ⟨z,hd,xs,rel,od,es,ep,g1,g2,g3,g4,g5⟩:=id okd;refine nU hd g1 g2 ?_;refine oN (es:=es) (ep:=ep) (zAC _ (cF _ rfl) rfl rfl) (bO _ g1) g3 ?_;have I2:Inv X pins σ (upd H1 a (.frz od (.dT kvs))) {s1 with heap:=s1.heap,toks:=s1.toks}:=I1.write (x:=a) (e:=a) (by rw [e];exact True.intro) (.inl rfl) (fun b u _ q=>q) ⟨od,g1⟩ ⟨g1,okd.stay (fun _ _ _ q=>q) (fun b q=>by rw [ao (du q e (fun z=>nomatch z))];exact q) fun b ys q=>by rw [ao (du q e (fun z=>nomatch z))];exact q⟩
 have I3:=I2.kept (h':=s1.heap.push {cls:=.type "dict_items",data:=.fields #[.ref a]}) (t':=s1.toks) fun b o e=>bO _ e;refine zAT _ ([_]) _ _ _ rfl (I3.kept (t':=s1.toks) fun b o e=>bO _ e) (sq a _ od g3 kvs) (zAH _ _ (cF _ rfl)) (fun b hb=>?_) (q1 od);rw [zq9.mp hb];exact I3.fpOk (zq6 _) (I3.hok.fresh (zq6 _))
theorem sF{X:Cx}{o:Expr}{td:TE}{apos pos pos0:Pos}{elts:List Expr}{k0:Nat}(ho:XE X o td)(hbase:attributeBase o "items" X.env (eval o X.env)=eval o X.env:=by rfl) (hline:(apos.endLine==pos.line)=true:=by rfl) :
  XI X (.Tuple elts k0 pos0) (.Call (.Attribute o "items" apos) [] [] pos) (mC td):=⟨ww ho.h hbase hline⟩
theorem wA{td:TE}{R:It->Hp->Prop}:mC td σ H R=td σ H fun x H1=>∃a kvs,x=.ref a/\H1 a=some (.dT kvs)/\∀o,R (mi a o kvs) (upd H1 a (.frz o (.dT kvs))):=rfl
theorem xU{d:Addr}{o:Obj}{kvs:List (List Key×V)}{g:TG}{tb:TS}{D:cY}(Pv:Nat->St->Hp->Prop)(h0:Pv 0 σ H)(hl:∀i σ H,i<=kvs.length->Pv i σ H->H d=some (.frz o (.dT kvs)))
 (hs:∀(i:Nat)k v b σ H p,kvs[i]?=some (k,v)->H b=some (.tup (k.map kV))->H p=none->Pv i σ H->g (.ref p) σ (upd H p (.tup [.ref b,v])) fun σ2 H2=>tb {D with nx:=Pv (i+1),ct:=Pv (i+1),bk:=D.nx} σ2 H2) (hd:∀σ H,Pv kvs.length σ H->D.nx σ H):nC (mi d o kvs) g tb D σ H:=by
 refine zn (fun i m σ H=>m=kvs.length-i/\i<=kvs.length/\Pv i σ H) (zAC kvs.length Jll (bT _) h0) ?_;rintro i m σ H ⟨rfl,hi,p⟩;have q:=hl i σ H hi p
 by_cases hlt:i<kvs.length
 ·refine .inr ⟨⟨q,hlt⟩,zn (Pv (i+1)) (fun σ' H' p'=>zAG (kvs.length-(i+1)) Jlk rfl hlt p') fun x H' y=>?_⟩;obtain ⟨pp,k,b,v,ex,hn,eH,hk,hb⟩:=y;subst ex eH;exact hs i k v b σ H pp hk hb hn p
 ·obtain rfl:i=kvs.length:=by omega
  exact .inl ⟨⟨q,zq6 _⟩,hd σ H p⟩
section
variable {X:Cx}
def D1:V->List V->Hp->VK->Prop:=fun x vs H Q=>∃(l b:Addr)(kvs:List (List Key×V)) (k:List Key) (v:V),x=.ref l/\vs=[.ref b,v]/\H l=some (.dT kvs)/\H b=some (.tup (k.map kV))/\kvs.length<sizeLine/\
 (∀y,ce kvs k=some y->Q y H)/\(ce kvs k=none->Q v (upd H l (.dT (kvs++[(k,v)]))))
theorem kO(hu:X.A.units+1<cLine):MtM X "dict.setdefault" D1:=by
 intro pins s σ H x vs u us Q I rx rv h;obtain ⟨l,b,kvs,k,v,rfl,rfl,hl,hb,hz,q1,q2⟩:=h
 cases rx
 obtain ⟨u1,u2,rfl,r1,r2⟩:=Ai rv
 cases r1
 obtain ⟨z,hd,xs,rel,dd⟩:=xO I.hok hl;have hlen:=Paired.length rel;refine call_meetsIn PySem.F.slot_dict_setdefault dd.typeIs PySem.F.entry_dict_setdefault (PySem.F.args_dict_setdefault_3 _ _ _) (gm (tupleKind (bB X.prog X.w)) l b hd u2) ⟨tupleKind_room_in1 hu,zAP k xs (gz I.hok hb) dd Jlk (fun p hp=>?_) fun hn h' dd' hs=>?_⟩
 ·have rk:=rel.val k;rw [hp] at rk
  cases hv:ce kvs k with
  |none=>rw [hv] at rk;exact rk.elim
  |some y=>rw [hv] at rk;exact zAA y H (I.tok _) rk (q1 y hv)
 ·have rk:=rel.val k;rw [hn] at rk;have hv:ce kvs k=none:=by
   cases hv:ce kvs k with
   |none=>rfl
   |some y=>rw [hv] at rk;exact rk.elim
  obtain ⟨q,es,ep,hq,h2,h3,h4,_,h5⟩:=dd';refine zAA v _ (gQ (ob:=.dT (kvs++[(k,v)])) I (by rw [hl];exact True.intro) hs ⟨q,hq⟩ (zAB (by rw [zq8,bV];omega) hd (zn _ (KT.keeps (Paired.snoc rel (zAB rfl hb r2)) fun c ys ec=>?_) (zAI q es ep hq h2 h3 h4 h5)))) r2 (q2 hv);rw [ao (du ec hl (fun z=>nomatch z))];exact ec
theorem Gk{l b:Addr}{v:V}:D1 (.ref l) [.ref b,v] H Q=∃(kvs:List (List Key×V)) (k:List Key),H l=some (.dT kvs)/\H b=some (.tup (k.map kV))/\kvs.length<sizeLine/\
  (∀y,ce kvs k=some y->Q y H)/\(ce kvs k=none->Q v (upd H l (.dT (kvs++[(k,v)])))):=propext ⟨by rintro ⟨_,_,kvs,k,_,e1,e2,q⟩;cases e1;cases e2;exact zAH kvs k q,by rintro ⟨kvs,k,q⟩;exact zAX l b kvs k v (zAB rfl rfl q)⟩
def uV(tk tv:TE):TE:=fun σ H Q=>∀p,H p=none->tk σ (upd H p (.dT [])) fun x H1=>tv σ H1 fun y H2=>H2 p=some (.dT [])/\∃(b:Addr)(k:List Key),x=.ref b/\H2 b=some (.tup (k.map kV))/\Q (.ref p) (upd H2 p (.dT [(k,y)]))
theorem sD{pos:Pos}{ke ve:Expr}{tk tv:TE}(hu:X.A.units+1<cLine)(hk:XE X ke tk)(hv:XE X ve tv):XE X (.Dict [some ke] [ve] pos) (uV tk tv):=⟨by
 intro pins s σ H Q I q;have hn:=I.hok.fresh (zq6 s.heap.objs.size);have I1:=I.laid (a:=s.heap.objs.size) (o:=.dT []) (h':=s.heap.push {cls:=.type "dict",data:=.dict #[]}) (t':=s.toks) (fun _ _ q=>bO _ q) (zq6 _) (oy s.heap I.big);refine wpAny_Dict_any rfl rfl Jll Jll ?_;refine pairTrees_cons_walk (thn (hk.h pins _ σ _ _ I1 (q _ hn)) fun u s1 ⟨x,H1,J1,rx,q1⟩=>thn (hv.h pins s1 σ H1 _ J1 q1) fun w2 s2 ⟨y,H2,J2,ry,q2⟩=>pairTrees_nil_walk ?_);obtain ⟨e,b,k,ex,hb,q3⟩:=q2;subst ex
 cases rx
 unfold storeAll;rw [Aw];obtain ⟨z,hd,xs,rel,dd⟩:=xO J2.hok e
 cases rel
 refine zq0 (zq0 (wpAny_dictSet_heap (hsz:=bT _) (show X.A.units<cLine by omega) (gz J2.hok hb) dd fun h' dd' hs=>zq3 ?_));dsimp only;rw [List.forIn_nil];refine zq3 (zAA (.ref s.heap.objs.size) _ ?_ rfl q3);obtain ⟨q,es,ep,hq,h2,h3,h4,_,h5⟩:=dd';refine gQ J2 (by rw [e];exact True.intro) hs ⟨q,hq⟩ (zAB (by show 1<=sizeLine;decide) hd (zn _ (.cons (zAB rfl ?_ ry) .nil) (zAI q es ep hq h2 h3 h4 h5)));show upd H2 s.heap.objs.size _ b=_;rw [ao (du hb e (fun z=>nomatch z))];exact hb⟩
theorem zf{tk tv:TE}:uV tk tv σ H Q=∀p,H p=none->tk σ (upd H p (.dT [])) fun x H1=>tv σ H1 fun y H2=>H2 p=some (.dT [])/\∃(b:Addr)(k:List Key),x=.ref b/\H2 b=some (.tup (k.map kV))/\Q (.ref p) (upd H2 p (.dT [(k,y)])):=rfl
theorem md{pos:Pos}:XE X (.Dict [] [] pos) A7:=⟨fun pins s σ H Q I h=>wpAny_Dict_empty (zAA (.ref s.heap.objs.size) _ (I.laid (a:=s.heap.objs.size) (o:=.dT []) (t':=s.toks) (fun _ _ q=>bO _ q) (zq6 _) (oy s.heap I.big)) rfl (h _ (I.hok.fresh (zq6 _))))⟩
theorem Cj:A7 σ H Q=∀p,H p=none->Q (.ref p) (upd H p (.dT [])):=rfl
end
end L2
namespace L2
section
variable {prog:Program} {w:World} {A:Around} {E:Value->Shared->Prop} {s:Shared}
theorem o1{Q:List Value->Shared->Prop}{r:Addr}{a b c:Int}{t u v:Tok}{n:Nat}(hh:A.handled=none)(hr:IsRange s.heap r a b c t u v)(hsmall:Builtin.Range.small a b c=true)(hn:Builtin.Range.rangeSize a b c=n)(hlen:n<=2 ^ 24)
  (hQ:∀h' tk acc,(∀b o,s.heap.get? b=some o->h'.get? b=some o)->ItemsOf (fun i v=>∃t,v=.int (a+i * c) t) acc n->Q acc.toList {s with heap:=h',toks:=tk}):wpAny (model prog w) A (collect (.ref r)) Q E s:=by
 unfold collect;refine zq0 (wpAny_runValue (sL F.entry_proto_collect ?_));rw [Around.under_plainId F.plain_proto_collect _];show wpAny _ A.in1 (newList [] >>= fun l=>again (.builtin "list.__iadd__" ⟨[l,.ref r],[]⟩)) _ _ s;refine zq0 (wpAny_newObj_type ?_);refine zq3 ⟨plainId_quiet F.plain_list_iadd _,sL F.entry_list_iadd ?_⟩;rw [Around.under_plainId F.plain_list_iadd _];show wpAny _ A.in1 (Builtin.List.listExtendWith (.ref s.heap.objs.size) (.ref r) (.ref s.heap.objs.size)) _ _ _;have hS:(s.heap.push {cls:=.type "list",data:=.seq ([]:List Value).toArray}).get? s.heap.objs.size=some {cls:=.type "list",data:=.seq #[] 0}:=cF _ rfl;refine ij (wpAny_extend_range (A:=A) (s:={s with heap:=s.heap.push {cls:=.type "list",data:=.seq ([]:List Value).toArray}}) (R:=fun r' s'=>∃h' tk acc c',r'=.ok (.ret (.ref s.heap.objs.size))/\s'={s with heap:=h',toks:=tk}/\(∀b o,s.heap.get? b=some o->h'.get? b=some o)/\
   h'.get? s.heap.objs.size=some {cls:=.type "list",dict:=none,data:=.seq acc c',slots:=#[]}/\ItemsOf (fun i v=>∃t,v=.int (a+i * c) t) acc n) hh (bO _ hr) hsmall hn hlen _ _ _ hS
  fun h' tk acc c' hk hS' hacc=>zAM h' tk acc c' rfl rfl (fun b o e=>hk b o (cf (bH e)) (bO _ e)) hS' hacc) (fun fin s' h=>?_) (fun e s' h=>?_)
 ·have fin':∀s' r',(∃h' tk acc c',r'=(Except.ok (.ret (.ref s.heap.objs.size)):Result)/\s'={s with heap:=h',toks:=tk}/\(∀b o,s.heap.get? b=some o->h'.get? b=some o)/\
   h'.get? s.heap.objs.size=some {cls:=.type "list",dict:=none,data:=.seq acc c',slots:=#[]}/\ItemsOf (fun i v=>∃t,v=.int (a+i * c) t) acc n)->wpAny (model prog w) A (match Value.ref s.heap.objs.size with
   |Value.ref a=>do
    match (<- load a).data with
     |Data.seq xs _=>pure xs.toList
     |_=>unsupported "internal:collect"
   |_=>unsupported "internal:collect") Q E s':=by
   rintro s' r' ⟨h',tk,acc,c',_,rfl,hk,hS',hacc⟩;show wpAny _ A (load s.heap.objs.size >>= _) _ _ _;refine zq0 (wpAny_load hS' ?_);exact zq3 (hQ h' tk acc hk hacc)
  cases fin with
  |done f=>
   obtain ⟨h',tk,acc,c',e,r⟩:=id h
   cases e
   exact fin' _ _ h
  |again c'=>exact ⟨h.1,codeAny_mono h.2 fun r s'' hr=>by obtain ⟨h',tk,acc,c',e,r⟩:=id hr;subst e;exact fin' _ _ hr⟩
 ·obtain ⟨_,_,_,_,e,_⟩:=h
  cases e
theorem j5(r:Addr)(n:Nat)(hlen:n<=1000):
  Meets (Builtin.«tuple.__new__» ⟨[.type "tuple",.ref r],[]⟩)
   (fun A R s=>A.handled=none/\(∃t u v,IsRange s.heap r 0 n 1 t u v)/\∀(h':Heap)(tk:Nat)(acc:Array Value),(∀b o,s.heap.get? b=some o->h'.get? b=some o)->ItemsOf (fun i v=>∃t,v=.int (0+i * 1) t) acc n->
    R (.ok (.ret (.ref h'.objs.size))) {s with heap:=h'.push {cls:=.type "tuple",data:=.seq acc},toks:=tk}):=
 .of_wp fun prog w A R s h=>by
  obtain ⟨hh,⟨t,u,v,hr⟩,h⟩:=h;have hsub:=sub_tuple_self;have hinit:=init_tuple_lookup;have hmh:=madeHere_tuple;have hT:s.TypeIs (.ref r) "range":=zn _ hr rfl
  have hh1:A.in1.handled=none:=hh;have hsm:Builtin.Range.small 0 n 1=true:=small_one Jlk Jlk Jlk Jlk;have hsz:Builtin.Range.rangeSize 0 n 1=n:=by rw [rangeSize_one];split<;>omega +splitNatSub
  wp_walk using AutoSeq1.wpAny_loadPart' hr,wpAny_typeOf hT,o1 hh1 hr hsm hsz (dX hlen Jkm)
  intro h' tk acc hk hacc;show wpAny _ _ (Builtin.Tuple.tupleExact acc.toList.toArray >>= fun v=>ret v) _ _ _;unfold Builtin.Tuple.tupleExact;refine zq0 (wpAny_newObj_type ?_ (show acc.toList.toArray.size<=sizeLine by simp only [Array.toArray_toList];rw [hacc.1,b9];omega));refine zq3 (zn _ rfl ?_);have e:acc.toList.toArray=acc:=by simp
  rw [e];exact h h' tk acc hk hacc
theorem jw{r:Addr}{n:Nat}{t u v:Tok}{Q:Value->Shared->Prop}(hh:A.handled=none)(hlen:n<=1000)(hr:IsRange s.heap r 0 n 1 t u v)
  (h:∀(h':Heap)(tk:Nat)(acc:Array Value),(∀b o,s.heap.get? b=some o->h'.get? b=some o)->ItemsOf (fun i v=>∃t,v=.int (0+i * 1) t) acc n->Q (.ref h'.objs.size) {s with heap:=h'.push {cls:=.type "tuple",data:=.seq acc},toks:=tk}) :
  wpAny (model prog w) A (call (.type "tuple") [.ref r]) Q E s:=
 callType_new F.called_tuple Jkm (F.typeCall_tuple_1 _) (F.newCall_tuple_1 _) (fun obj=>F.args_object_init_2 obj _) F.entry_tuple_new
  (j5 r n hlen) (zAB hh (zAL t u v hr) fun h' tk acc hk hacc=>⟨zn _ (cF _ rfl) rfl,h h' tk acc hk hacc⟩)
end
section
variable {X:Cx}
def mZ(ta:TA):TE:=fun σ H Q=>ta σ H fun vs H1=>∃n:Nat,vs=[.int n]/\n<=1000/\∀l,H1 l=none->Q (.ref l) (upd H1 l (.tup ((List.range n).map fun i:Nat=>V.int i)))
theorem wq{a:Expr}{ta:TA}{p p2 pos pos2:Pos}(hc:X.calm=true)(hm:X.mg "tuple"=none) (hm2:X.mg "range"=none) (ha:PA X [a] ta) (hg:Gl X "tuple") (hg2:Gl X "range") (hs:starEach [a] X.env=[(false,eval a X.env)]:=by rfl)
  (hs2:starEach [.Call (.Name "range" p2) [a] [] pos2] X.env=[(false,eval (.Call (.Name "range" p2) [a] [] pos2) X.env)]:=by rfl) :
  PE X (.Call (.Name "tuple" p) [.Call (.Name "range" p2) [a] [] pos2] [] pos) (mZ ta):=by
 intro pins s σ H Q I h;refine Call_ (dP I hg hm boot_tuple (PyProof.Rows.callWith_type1 ?_ hs2 rfl));rw [hs2];show wpAny _ _ (spliced ((false,eval (.Call (.Name "range" p2) [a] [] pos2) X.env)::[])) _ _ s;refine Calls.spliced_cons (Call_ (dP I hg2 hm2 boot_range (PyProof.Rows.callWith_type1 (thn (ha pos2 pins s σ H _ I h) fun us s1 hhx=>?_) hs rfl)));obtain ⟨vs,H1,I1,r1,q1⟩:=hhx;obtain ⟨n,e,hn,q⟩:=q1;subst e
 cases r1 with
 |cons r rr=>
  cases rr
  obtain ⟨t,rfl⟩:=r;refine call_range_1 (Calls.spliced_nil ?_);refine jw (n:=n) (I.ok.hd hc) hn (IsRange.new ..) fun h' tk acc hk hacc=>?_;have kp:∀b u,s1.heap.get? b=some u->h'.get? b=some u:=fun b u e=>hk b u (bO _ e);have I2:Inv X pins σ H1 {s1 with heap:=h',toks:=tk}:=I1.kept kp;refine zAA (.ref h'.objs.size) _ (I2.laid (t':=tk) (fun b u e=>bO _ e) (zq6 _) (show ObjOk X.prog X.w _ _ _ (.tup ((List.range n).map fun i:Nat=>V.int i)) from ⟨by rw [zq4,cX,b9];omega,zn acc.toList (lM hacc) ?_⟩)) rfl (q _ (I2.hok.fresh (zq6 _)));have e:=IsTup.new h' acc;simpa using e
theorem sE{a:Expr}{ta:TA}{p p2 pos pos2:Pos}(hc:X.calm=true)(hm:X.mg "tuple"=none) (hm2:X.mg "range"=none) (ha:XA X [a] ta) (hg:Gl X "tuple") (hg2:Gl X "range") (hs:starEach [a] X.env=[(false,eval a X.env)]:=by rfl)
  (hs2:starEach [.Call (.Name "range" p2) [a] [] pos2] X.env=[(false,eval (.Call (.Name "range" p2) [a] [] pos2) X.env)]:=by rfl) :
  XE X (.Call (.Name "tuple" p) [.Call (.Name "range" p2) [a] [] pos2] [] pos) (mZ ta):=⟨wq hc hm hm2 ha.h hg hg2 hs hs2⟩
theorem zt{ta:TA}{σ:St}{H:Hp}{Q:VK}:mZ ta σ H Q=ta σ H fun vs H1=>∃n:Nat,vs=[.int n]/\n<=1000/\∀l,H1 l=none->Q (.ref l) (upd H1 l (.tup ((List.range n).map fun i:Nat=>V.int i))):=rfl
end
section
variable {prog:Program} {w:World} {A:Around} {E:Value->Shared->Prop} {s:Shared} {l I S:Addr} {vs:List Value} {ln:Nat->Nat} {dv:Value} {R:Result->Shared->Prop}
end
section
variable {X:Cx}
end
end L2
end
namespace GD
section
variable {G:Nat->Nat->Option Int} {so:Nat->Nat} {U:Nat->Int} {n:Nat}
end
end GD
section
open PySem PySem.Spec PyProof.Rows
namespace L2
theorem uY:∀{xs:List V} {us:List Value},us.length=xs.length->(∀(j:Nat)(v:Value),us[j]?=some v->∃x,xs[j]?=some x/\RelV x v)->Vals xs us
 | [],[],_,_=>.nil
 | [],_::_,h,_=>by simp at h
 |_::_,[],h,_=>by simp at h
 |x::xs,u::us,h,hv=>by
  obtain ⟨y,e,r⟩:=hv 0 u rfl
  cases e
  refine .cons r (uY (by simpa using h) fun j v hj=>?_);obtain ⟨y,e,r⟩:=hv (j+1) v (by simpa using hj);exact zn y (by simpa using e) r
section
variable {X:Cx}
end
end L2
namespace L2
def CS(d:Addr)(o:Obj)(kvs:List (Key×V)):It:=
 ⟨fun i H=>H d=some (.frz o (.dK kvs))/\i<kvs.length,fun i H x H'=>H'=H/\∃k v,kvs[i]?=some (k,v)/\x=kV k,fun i H=>H d=some (.frz o (.dK kvs))/\kvs.length<=i⟩
def Hz(td:TE):TI:=fun σ H R=>td σ H fun x H1=>∃a kvs,x=.ref a/\H1 a=some (.dK kvs)/\∀o,R (CS a o kvs) (upd H1 a (.frz o (.dK kvs)))
theorem Cp{td:TE}{σ:St}{H:Hp}{R:It->Hp->Prop}:Hz td σ H R=td σ H fun x H1=>∃a kvs,x=.ref a/\H1 a=some (.dK kvs)/\∀o,R (CS a o kvs) (upd H1 a (.frz o (.dK kvs))):=rfl
end L2
namespace L2
def Itz(K:W.Frag)(a b:Addr):It:=
  ⟨fun i H=>∃xs ys x y,SqL K H a xs/\SqL K H b ys/\xs[i]?=some x/\ys[i]?=some y,
   fun i H z H'=>∃p x y,z=.ref p/\H p=none/\H'=upd H p (.tup [x,y])/\(∀xs,SqL K H a xs->xs[i]?=some x)/\∀ys,SqL K H b ys->ys[i]?=some y,
   fun i H=>∃xs ys,SqL K H a xs/\SqL K H b ys/\(xs.length<=i\/ys.length<=i)⟩
def Hm(z ti to i1 i2 a b:Addr)(i:Nat)(h:Heap):Prop:=IsZip h z ti to .none/\IsPair h ti (.ref i1) (.ref i2)/\(∃u v,IsPair h to u v)/\h.IsListIter i1 a i/\h.IsListIter i2 b i
theorem Ah{P:Program}{w:World}{K:W.Frag}{elts:List Expr}{k0:Nat}{pos0:Pos}{z ti to i1 i2 a b:Addr}(D:ZipApart z ti to i1 i2 a b):
  kI P w K (.Tuple elts k0 pos0) (Itz K a b) [z,ti,to,i1,i2] z (Hm z ti to i1 i2 a b) where
 mem:=by simp
 obj:=fun i h ⟨h1,h2,⟨u,v,h3⟩,h4,h5⟩ c hc=>by
  simp only [List.mem_cons,List.not_mem_nil,or_false] at hc;rcases hc with rfl | rfl | rfl | rfl | rfl
  ·exact zn _ h1 (fun v e=>by cases (show Data.fields _=Data.cell v from e))
  ·exact zn _ h2 (fun v e=>by cases (show Data.seq _ _=Data.cell v from e))
  ·exact zn _ h3 (fun v e=>by cases (show Data.seq _ _=Data.cell v from e))
  ·obtain ⟨o,q,_,d⟩:=h4;exact zn o q (fun v e=>by rw [d] at e;cases e)
  ·obtain ⟨o,q,_,d⟩:=h5;exact zn o q (fun v e=>by rw [d] at e;cases e)
 keep:=fun i h h' ⟨h1,h2,⟨u,v,h3⟩,h4,h5⟩ k=>zAJ (k z Jll _ h1) (k ti Jll _ h2) (zAH u v (k to Jll _ h3)) (h4.at fun o q=>k i1 Jll o q) (h5.at fun o q=>k i2 Jll o q)
 item:=by
  intro X hP hw hK hc i pins s σ H E I hf st hg;subst hP hw hK;obtain ⟨xs,ys,x,y,hqx,hqy,hx,hy⟩:=hg;obtain ⟨its,rv,p,hzz⟩:=I.list hqx;obtain ⟨ots,rw',p',hzz'⟩:=I.list hqy;obtain ⟨u,hu,ru⟩:=rv.get hx;obtain ⟨v,hv,rv'⟩:=rw'.get hy;obtain ⟨hz,hti,⟨oa,ob,hto⟩,hi1,hi2⟩:=st;have hf0:∀c∈[z,ti,to,i1,i2],H c=none:=fun c hc=>(hf c hc).1;refine wpAny_pyNext_zip_item D hz hti hto hi1 hi2 p.isList p'.isList (x:=u) (y:=v) (by simpa using hu) (by simpa using hv) fun h1 z1 t1 a1 a2 t2 hsz hk=>?_;refine zn _ rfl (wpAny_letOwnedTupleGo_zip z1 fun h2 z2 hs2=>?_);replace hs2:Heap.SameBut z h1 h2:=hs2;have zlt:z<s.heap.objs.size:=bH hz;have hk2:∀c o,c≠z->c≠to->c≠i1->c≠i2->s.heap.get? c=some o->h2.get? c=some o:=fun c o c1 c2 c3 c4 q=>(hs2.2 c c1).trans (hk c o c1 c2 c3 c4 q);have hT2:IsPair h2 s.heap.objs.size u v:=(hs2.2 _ (sH zlt)).trans t2;have hn:H s.heap.objs.size=none:=I.hok.fresh (zq6 _);have nF:∀c o,H c=some o->c≠z/\c≠to/\c≠i1/\c≠i2:=fun c o q=>zAF (fun e=>(by rw [e,hf0 z Jll] at q;cases q)) (fun e=>(by rw [e,hf0 to Jll] at q;cases q)) (fun e=>(by rw [e,hf0 i1 Jll] at q;cases q)) (fun e=>(by rw [e,hf0 i2 Jll] at q;cases q))
  have kp:∀c o o',H c=some o->s.heap.get? c=some o'->h2.get? c=some o':=fun c o o' q r=>let ⟨n1,n2,n3,n4⟩:=nF c o q;hk2 c o' n1 n2 n3 n4 r;have ok2:HOk X.prog X.w H h2:=fun c o q=>(I.hok c o q).stay (fun d v' hd r=>by
   rcases hd with e | e
   ·rw [e] at r ⊢;exact kp c o v' q r
   ·exact kp d _ v' e r) (fun _ r=>r) fun _ _ r=>r
  have ok3:HOk X.prog X.w (upd H s.heap.objs.size (.tup [x,y])) h2:=fun c o q=>by
   by_cases hb:c=s.heap.objs.size
   ·subst hb;rw [ae] at q
    cases q
    exact ⟨by show 2<=sizeLine;decide,zn ([u,v]) (.cons ru (.cons rv' .nil)) (zAC _ hT2 rfl ⟨_,rfl⟩)⟩
   ·rw [ao hb] at q;exact (ok2 c o q).stay (fun d v' _ r=>r) (fun d r=>by rw [ao (am r hn)];exact r) fun d zs r=>by rw [ao (am r hn)];exact r
  have nlt:∀{c:Addr} {o:Obj},s.heap.get? c=some o->c≠s.heap.objs.size:=fun q=>cf (bH q);have lg:∀c,c∉[z,ti,to,i1,i2]->c≠z/\c≠to/\c≠i1/\c≠i2:=fun c hc=>by simp only [List.mem_cons,List.not_mem_nil,or_false,not_or] at hc;exact zAF hc.1 hc.2.2.1 hc.2.2.2.1 hc.2.2.2.2
  have I2:Inv X pins σ (upd H s.heap.objs.size (.tup [x,y])) {s with heap:=h2,toks:=s.toks}:=
   I.step (g':=s.gens) (d':=s.drawn) (ch:=[z,ti,to,i1,i2]) (fun c hc=>let ⟨_,f1,_,f3,f4,f5⟩:=hf c hc;(zAF f3 f1 f4 f5))
    (fun c o _ _ hc q _=>let ⟨n1,n2,n3,n4⟩:=lg c hc;hk2 c o n1 n2 n3 n4 q)
    (fun c o _ _ hc q _=>let ⟨n1,n2,n3,n4⟩:=lg c hc;⟨o.slots,hk2 c o n1 n2 n3 n4 q⟩)
    (fun c o _ q n=>by rw [ao (nlt q)];exact n)
    (fun c o hc q=>let ⟨n1,n2,n3,n4⟩:=lg c hc;⟨o,hk2 c o n1 n2 n3 n4 q⟩)
    (fun c zs q=>by rw [ao (am q hn)];exact q) (fun c o v q=>by rw [ao (am q hn)];exact q) (fun c ps q=>⟨#[],by rw [ao (am q hn),q];simp⟩)
    (fun m ⟨o,es,ep,hm,r⟩=>zAK o es ep (hk2 _ o (hf z Jll).2.1.symm (hf to Jll).2.1.symm (hf i1 Jll).2.1.symm (hf i2 Jll).2.1.symm hm) r) ok3 I.bare
  refine ⟨.ref s.heap.objs.size,_,I2,rfl,zAI _ x y rfl hn rfl (fun zs hz'=>by rw [I.list_inj hz' hqx];exact hx) (fun zs hz'=>by rw [I.list_inj hz' hqy];exact hy),
   (zAJ z2 ((hs2.2 ti D.TIz).trans (hk ti _ D.TIz D.TITO D.TIi1 D.TIi2 hti)) (zAH u v ((hs2.2 to D.TOz).trans t1)) (a1.at fun o q=>(hs2.2 i1 D.i1z).trans q) (a2.at fun o q=>(hs2.2 i2 D.i2z).trans q)),fun c hc=>?_⟩
  have hcl:c≠s.heap.objs.size:=by
   simp only [List.mem_cons,List.not_mem_nil,or_false] at hc;rcases hc with e | e | e | e | e
   ·rw [e];exact nlt hz
   ·rw [e];exact nlt hti
   ·rw [e];exact nlt hto
   ·rw [e];obtain ⟨o,q,_⟩:=hi1;exact nlt q
   ·rw [e];obtain ⟨o,q,_⟩:=hi2;exact nlt q
  rw [ao hcl];exact hf0 c hc
 done:=by
  intro X hP hw hK hc i pins s σ H E I hf st hg;subst hP hw hK;obtain ⟨xs,ys,hqx,hqy,hend⟩:=hg;obtain ⟨its,rv,p,_⟩:=I.list hqx;obtain ⟨ots,rw',p',_⟩:=I.list hqy;have hl1:=rv.length;have hl2:=rw'.length;obtain ⟨hz,hti,⟨oa,ob,hto⟩,hi1,hi2⟩:=st;have hf0:∀c∈[z,ti,to,i1,i2],H c=none:=fun c hc=>(hf c hc).1;refine wpAny_pyNext_zip_end (I.ok.hd hc) D hz hti hto hi1 hi2 p.isList p'.isList (hend.imp (fun h=>by simp;omega) fun h=>by simp;omega) fun h' hk=>⟨rfl,?_⟩
  have lg:∀c,c∉[z,ti,to,i1,i2]->c≠z/\c≠to/\c≠i1/\c≠i2:=fun c hc=>by simp only [List.mem_cons,List.not_mem_nil,or_false,not_or] at hc;exact zAF hc.1 hc.2.2.1 hc.2.2.2.1 hc.2.2.2.2
  have kp:∀c o o',H c=some o->s.heap.get? c=some o'->h'.get? c=some o':=fun c o o' q r=>hk c o' (fun e=>by rw [e,hf0 z Jll] at q;cases q) (fun e=>by rw [e,hf0 to Jll] at q;cases q) (fun e=>by rw [e,hf0 i1 Jll] at q;cases q) (fun e=>by rw [e,hf0 i2 Jll] at q;cases q) r;exact I.step (t':=s.toks) (g':=s.gens) (d':=s.drawn) (ch:=[z,ti,to,i1,i2]) (fun c hc=>let ⟨_,f1,_,f3,f4,f5⟩:=hf c hc;(zAF f3 f1 f4 f5))
    (fun c o _ _ hc q _=>let ⟨n1,n2,n3,n4⟩:=lg c hc;hk c o n1 n2 n3 n4 q)
    (fun c o _ _ hc q _=>let ⟨n1,n2,n3,n4⟩:=lg c hc;⟨o.slots,hk c o n1 n2 n3 n4 q⟩)
    (fun _ _ _ _ n=>n) (fun c o hc q=>let ⟨n1,n2,n3,n4⟩:=lg c hc;⟨o,hk c o n1 n2 n3 n4 q⟩) (fun _ _ q=>q) (fun _ _ _ q=>q) (fun c ps q=>⟨#[],by rw [q];simp⟩)
    (fun m ⟨o,es,ep,hm,r⟩=>zAK o es ep (hk _ o (hf z Jll).2.1.symm (hf to Jll).2.1.symm (hf i1 Jll).2.1.symm (hf i2 Jll).2.1.symm hm) r)
    (fun c o q=>(I.hok c o q).stay (fun d v' hd r=>by
     rcases hd with e | e
     ·rw [e] at r ⊢;exact kp c o v' q r
     ·exact kp d _ v' e r) (fun _ r=>r) fun _ _ r=>r) I.bare
 self:=fun _ _ _ _ _ ⟨hz,_⟩ h=>wpAny_pyIter_zip hz h
def EH(K:W.Frag)(ta:TA):TI:=fun σ H R=>ta σ H fun vs H1=>∃a b,vs=[.ref a,.ref b]/\(∃xs,SqL K H1 a xs)/\(∃ys,SqL K H1 b ys)/\R (Itz K a b) H1
theorem Fe{X:Cx}{a b:Expr}{ta:TA}{p pos pos0:Pos}{elts:List Expr}{k0:Nat}(hm:X.mg "zip"=none) (ha:PA X [a,b] ta) (hg:Gl X "zip":=by rfl) (hs:starEach [a,b] X.env=(false,eval a X.env)::starEach [b] X.env:=by rfl) (hs2:(backTo pos (starEach [b] X.env)).any (·.1)=false:=by rfl) :
  PI X (.Tuple elts k0 pos0) (.Call (.Name "zip" p) [a,b] [] pos) (EH X.K ta):=by
 intro pins s σ H R I h;refine Call_ (dP I hg hm boot_zip (PyProof.Rows.callWith_type1 (thn (ha pos pins s σ H _ I h) fun us s1 hhx=>?_) hs hs2));obtain ⟨vs,H1,I1,r1,q1⟩:=hhx;obtain ⟨l,m,e,⟨xs,hx⟩,⟨ys,hy⟩,q⟩:=q1;subst e;obtain ⟨u,us',rfl,ru,r2⟩:∃u us',us=u::us'/\RelV (.ref l) u/\Vals [.ref m] us':=by cases r1 with | cons r rr=>exact zAA _ _ rfl r rr
 obtain ⟨v,rfl,rv⟩:=fu r2
 cases ru
 cases rv
 obtain ⟨its,_,p1,_⟩:=I1.list hx;obtain ⟨ots,_,p2,_⟩:=I1.list hy;have l1:l<s1.heap.objs.size:=by obtain ⟨o,ho,_⟩:=p1.isList;exact bH ho
 have l2:m<s1.heap.objs.size:=by obtain ⟨o,ho,_⟩:=p2.isList;exact bH ho
 refine call_zip_2 p1.isList p2.isList fun h' z1 z2 z3 z4 z5 _ hk=>?_;refine wpAny_pyIter_zip z1 ?_;have I2:Inv X pins σ H1 {s1 with heap:=h'}:=I1.kept (t':=s1.toks) hk;refine zAT _ _ _ _ H1 rfl I2 (Ah (zipApart_new l1 l2)) (zAJ z1 z2 (zAH _ _ z3) z4 z5) (fun c hc=>?_) q;have hle:s1.heap.objs.size<=c:=by
  simp only [List.mem_cons,List.not_mem_nil,or_false] at hc;rcases hc with rfl | rfl | rfl | rfl | rfl
  ·exact qI _ _
  ·exact qI _ _
  ·exact qI _ _
  ·exact zq6 _
  ·exact qI _ _
 exact I1.fpOk hle (I1.hok.fresh hle)
theorem nj{X:Cx}{a b:Expr}{ta:TA}{p pos pos0:Pos}{elts:List Expr}{k0:Nat}(hm:X.mg "zip"=none) (ha:XA X [a,b] ta) (hg:Gl X "zip":=by rfl) (hs:starEach [a,b] X.env=(false,eval a X.env)::starEach [b] X.env:=by rfl) (hs2:(backTo pos (starEach [b] X.env)).any (·.1)=false:=by rfl) :
  XI X (.Tuple elts k0 pos0) (.Call (.Name "zip" p) [a,b] [] pos) (EH X.K ta):=⟨Fe hm ha.h hg hs hs2⟩
theorem FM{K:W.Frag}{ta:TA}{σ:St}{H:Hp}{R:It->Hp->Prop}:EH K ta σ H R=ta σ H fun vs H1=>∃a b,vs=[.ref a,.ref b]/\(∃xs,SqL K H1 a xs)/\(∃ys,SqL K H1 b ys)/\R (Itz K a b) H1:=rfl
theorem rf{K:W.Frag}{a b:Addr}{xs ys:List V}{g:TG}{tb:TS}{D:cY}{σ:St}{H:Hp}(hlen:xs.length=ys.length)(Pv:Nat->St->Hp->Prop)(h0:Pv 0 σ H)(hl:∀i σ H,i<=xs.length->Pv i σ H->SqL K H a xs/\SqL K H b ys)
  (hs:∀(i:Nat)x y σ H p,xs[i]?=some x->ys[i]?=some y->H p=none->Pv i σ H->g (.ref p) σ (upd H p (.tup [x,y])) fun σ2 H2=>tb {D with nx:=Pv (i+1),ct:=Pv (i+1),bk:=D.nx} σ2 H2) (hd:∀σ H,Pv xs.length σ H->D.nx σ H):nC (Itz K a b) g tb D σ H:=by
 refine zn (fun i m σ H=>m=xs.length-i/\i<=xs.length/\Pv i σ H) (zAC xs.length Jll (bT _) h0) ?_;rintro i m σ H ⟨rfl,hi,p⟩;obtain ⟨q1,q2⟩:=hl i σ H hi p
 by_cases hlt:i<xs.length
 ·refine .inr ⟨zAQ xs ys _ _ q1 q2 (zq5 hlt) (zq5 Jlk),zn (Pv (i+1)) (fun σ' H' p'=>zAG (xs.length-(i+1)) Jlk rfl hlt p') fun x H' y=>?_⟩;obtain ⟨pp,u,v,ex,hn,eH,y1,y2⟩:=y;subst ex eH;exact hs i u v σ H pp (y1 xs q1) (y2 ys q2) hn p
 ·obtain rfl:i=xs.length:=by omega
  exact .inl ⟨zAA xs ys q1 q2 (.inl (zq6 _)),hd σ H p⟩
end L2
namespace L2
def lU(l:List Str)(x:Str):List Str:=if x∈l then l else l++[x]
def dA(ns:List Str):List Str:=ns.foldl lU []
theorem rJ(ns:List Str)(x:Str):dA (ns++[x])=lU (dA ns) x:=by unfold dA;rw [qJ];rfl
theorem wk{l:List Str}{x y:Str}:y∈lU l x↔y∈l\/y=x:=by
 unfold lU
 split
 ·next h=>exact ⟨.inl,fun z=>z.elim id fun e=>by rw [e];exact h⟩
 ·rw [zq20,zq9]
theorem wl(ns:List Str):(∀y,y∈dA ns↔y∈ns)/\(dA ns).length<=ns.length/\((dA ns).length=ns.length↔ns.Nodup):=by
 rw [<- List.reverse_reverse ns];generalize ns.reverse=ms
 induction ms with
 |nil=>exact zAB (fun y=>Iff.rfl) (zq6 _) ⟨fun _=>vf,fun _=>rfl⟩
 |cons x m ih=>
  rw [List.reverse_cons];generalize m.reverse=l at ih ⊢;obtain ⟨h1,h2,h3⟩:=ih;rw [rJ,zq8,bV];refine zAB (fun y=>by rw [wk,h1,zq20,zq9]) ?_ ?_
  ·unfold lU;split
   ·omega
   ·rw [zq8,bV];omega
  ·rw [zq65];unfold lU
   split
   ·next h=>refine ⟨fun e=>absurd e Jlk,fun ⟨_,_,z⟩=>absurd rfl (z x ((h1 x).mp h) x (zq9.mpr rfl))⟩
   ·next h=>rw [zq8,bV];refine ⟨fun e=>zAB (h3.mp Jlk) Jll fun a ha b hb e2=>h ?_,fun ⟨z,_,_⟩=>by rw [h3.mpr z]⟩;rw [zq9.mp hb] at e2;rw [<- e2];exact (h1 a).mpr ha
section
variable {prog:Program} {w:World} {A:Around} {R:Result->Shared->Prop} {it:Addr} {fp wr:List Addr} {G:Array GenState->Array GenState->Prop} {n:Nat} {P:Nat->Value->Prop} {St:Nat->Shared->Prop}
end
section
variable {prog:Program} {w:World} {A:Around} {E:Value->Shared->Prop} {s:Shared}
end
def uE(p:Addr)(n:Nat):HO:=.ext fun h=>n<scanBound/\∃o es ep t,h.get? p=some o/\o.ExactSet/\o.data=.set es ep t/\t.fits es.size=true/\es.size=n
variable {X:Cx}
def Ib(K:W.Frag):List V->Hp->VK->Prop:=fun xs H Q=>∃(a:Addr)(ns:List Str),xs=[.ref a]/\SqL K H a (ns.map V.str)/\ns.length<64/\∀p:Addr,H p=none->Q (.ref p) (upd H p (uE p (dA ns).length))
theorem Gm{K:W.Frag}{a:Addr}{H:Hp}{Q:VK}:Ib K [.ref a] H Q=∃ns:List Str,SqL K H a (ns.map V.str)/\ns.length<64/\∀p:Addr,H p=none->Q (.ref p) (upd H p (uE p (dA ns).length)):=propext ⟨by rintro ⟨_,ns,e,q⟩;cases e;exact ⟨ns,q⟩,by rintro ⟨ns,q⟩;exact zAE a ns rfl q⟩
def HZ:List V->Hp->VK->Prop:=fun xs H Q=>∃(p:Addr)(n:Nat),xs=[.ref p]/\H p=some (uE p n)/\Q (.int n) H
theorem Ga{p:Addr}{H:Hp}{Q:VK}:HZ [.ref p] H Q=∃n:Nat,H p=some (uE p n)/\Q (.int n) H:=propext ⟨by rintro ⟨_,n,e,q⟩;cases e;exact ⟨n,q⟩,by rintro ⟨n,q⟩;exact zAE p n rfl q⟩
end L2
end
namespace GV
open PySem PySem.Spec PySem.W PyProof.Rows
mutual
inductive NkIs (h:Heap):WData->Value->Prop where
 |non:NkIs h .none .none
 |int {i:Int} {t:Tok}:NkIs h (.int i) (.int i t)
 |str {x:Str} {t:Tok}:NkIs h (.str x) (.str x t)
 |tup {a:Addr} {o:Obj} {its:Array Value} {n:Nat} {xs:List WData}:h.get? a=some o->o.cls=.type "tuple"->o.data=.seq its n->NksIs h xs its.toList->NkIs h (.tuple xs) (.ref a)
inductive NksIs (h:Heap):List WData->List Value->Prop where
 |nil:NksIs h [] []
 |cons {k:WData} {v:Value} {ks:List WData} {vs:List Value}:NkIs h k v->NksIs h ks vs->NksIs h (k::ks) (v::vs)
end
mutual
def dpN:WData->Nat
 | .tuple xs=>ip xs+1
 |_=>0
def ip:List WData->Nat
 | []=>0
 |x::r=>max (dpN x) (ip r)
end
mutual
def tkN:WData->Nat
 | .tuple xs=>CG xs+1
 |_=>1
def CG:List WData->Nat
 | []=>0
 |x::r=>tkN x+CG r
end
mutual
theorem NkIs.inj{h:Heap}:∀{x y:WData} {v:Value},NkIs h x v->NkIs h y v->x=y
 |_,_,_,.non,b=>by cases b;rfl
 |_,_,_,.int,b=>by cases b;rfl
 |_,_,_,.str,b=>by cases b;rfl
 |_,_,_,.tup h1 h2 h3 h4,b=>by
  cases b with
  |tup g1 g2 g3 g4=>
   rw [h1] at g1
   cases g1
   rw [h3] at g3
   cases g3
   rw [NksIs.inj h4 g4]
theorem NksIs.inj{h:Heap}:∀{x y:List WData} {v:List Value},NksIs h x v->NksIs h y v->x=y
 |_,_,_,.nil,b=>by cases b;rfl
 |_,_,_,.cons h1 h2,b=>by
  cases b with
  |cons g1 g2=>rw [NkIs.inj h1 g1,NksIs.inj h2 g2]
end
mutual
theorem NkIs.keep{h h':Heap}(k:∀(a:Addr)(o:Obj)(its:Array Value)(n:Nat),h.get? a=some o->o.data=.seq its n->h'.get? a=some o):∀{x:WData} {v:Value},NkIs h x v->NkIs h' x v
 |_,_,.non=>.non
 |_,_,.int=>.int
 |_,_,.str=>.str
 |_,_,.tup h1 h2 h3 h4=>.tup (k _ _ _ _ h1 h3) h2 h3 (NksIs.keep k h4)
theorem NksIs.keep{h h':Heap}(k:∀(a:Addr)(o:Obj)(its:Array Value)(n:Nat),h.get? a=some o->o.data=.seq its n->h'.get? a=some o):∀{x:List WData} {v:List Value},NksIs h x v->NksIs h' x v
 |_,_,.nil=>.nil
 |_,_,.cons h1 h2=>.cons (NkIs.keep k h1) (NksIs.keep k h2)
end
theorem NksIs.length{h:Heap}:∀{x:List WData} {v:List Value},NksIs h x v->x.length=v.length
 |_,_,.nil=>rfl
 |_,_,.cons _ t=>by rw [d5,d5,NksIs.length t]
theorem NksIs.at{h:Heap}:∀{x:List WData} {v:List Value} {j:Nat} {u:Value},NksIs h x v->v[j]?=some u->∃k,x[j]?=some k/\NkIs h k u
 |_,_,_,_,.nil,e=>by simp at e
 |_,_,0,_,.cons r _,e=>by simp at e;subst e;exact zn _ rfl r
 |_,_,j+1,u,.cons _ t,e=>by obtain ⟨k,h1,h2⟩:=NksIs.at (j:=j) (u:=u) t (by simpa using e);exact zn k (by simpa using h1) h2
theorem jB:∀{xs:List WData} {x:WData},x∈xs->dpN x<=ip xs
 |y::r,x,h=>by
  rw [ip];rcases zq11.mp h with rfl | h
  ·exact Nat.le_max_left _ _
  ·exact dX (jB h) (Nat.le_max_right _ _)
section
variable {prog:Program} {w:World} {E:Value->Shared->Prop}
mutual
theorem tV:∀{k:WData} {v:Value} {A:Around} {s:Shared} {Q:Int->Shared->Prop},NkIs s.heap k v->A.units+dpN k<cLine->Q (hashW w.params k) {s with toks:=s.toks+tkN k}->wpAny (model prog w) A (pyHash v) Q E s
 |_,_,A,s,Q,.non,hu,q=>pyHash_slot (T:="NoneType") rfl F.slot_NoneType_hash F.entry_NoneType_hash (F.args_NoneType_hash_1 _) (beq_builtin_none _) (.inr (B1 (qI _ _) hu)) (zq0 (zq3 (zq0 (wpAny_mkInt (zq3 (zAE _ _ rfl q))))))
 |_,_,A,s,Q,.int (i:=i),hu,q=>wpAny_pyHash_int (hashW_int w.params i ▸ q)
 |_,_,A,s,Q,.str,hu,q=>wpAny_pyHash_str q
 |_,_,A,s,Q,.tup (a:=a) (xs:=xs) h1 h2 h3 h4,hu,q=>by rw [dpN] at hu;refine pyHash_slot (T:="tuple") (zn _ h1 h2) F.slot_tuple_hash F.entry_tuple_hash (F.args_tuple_hash_1 _) (beq_builtin_none _) (.inr Jlk) ?_;refine zq0 (zq3 (zq0 (wpAny_tupleItemsOf h1 h3 (zq0 ?_))));rw [<- Array.forIn_toList];refine oI (b:=#[]) h4 (by rw [Around.in1_units];omega) fun b hb=>?_;refine zq0 (wpAny_mkInt (zq3 (zAE _ _ rfl ?_)));rw [hb];rw [tkN,hashW,<- Nat.add_assoc] at q;exact q
theorem oI:∀{ks:List WData} {vs:List Value} {A:Around} {s:Shared} {b:Array Int} {Q:Array Int->Shared->Prop},NksIs s.heap ks vs->A.units+ip ks<cLine->
  (∀b':Array Int,b'.toList=b.toList++hashesW w.params ks->Q b' {s with toks:=s.toks+CG ks})->wpAny (model prog w) A (forIn vs b fun x r=>do let z <- pyHash x;pure PUnit.unit;pure (ForInStep.yield (r.push z))) Q E s
 |_,_,A,s,b,Q,.nil,_,q=>zq3 (q b (by rw [hashesW,g9]))
 |_,_,A,s,b,Q,.cons (k:=k) (ks:=ks) h1 h2,hu,q=>by rw [ip] at hu;rw [Aw];refine zq0 (zq0 (tV h1 (B1 (vg (Nat.le_max_left _ _) _) hu) (zq0 (zq3 (zq3 ?_)))));refine oI (s:={s with toks:=s.toks+tkN k}) h2 (B1 (vg (Nat.le_max_right _ _) _) hu) fun b' hb=>?_;have z:=q b' (by rw [hb,hashesW,Array.toList_push,kR];rfl);rw [CG,<- Nat.add_assoc] at z;exact z
end
theorem Bu{x y:List WData}:((List.range (min x.length y.length)).all (fun j=>decide (x[j]?=y[j]?))&&x.length==y.length)=decide (WData.tuple x=WData.tuple y):=by
 rw [eh,ee,zq48,eo,zq57]
 constructor
 ·rintro ⟨h,hl⟩;have e:x=y:=by
   apply nz;intro j
   by_cases hj:j<x.length
   ·exact of_decide_eq_true (h j (zq33.mpr Jlk))
   ·rw [gf Jlk,gf Jlk]
  rw [e]
 ·intro e;injection e with e;subst e;exact ⟨fun j _=>bC rfl,rfl⟩
theorem Hu:∀(n:Nat){x y:WData} {v u:Value} {A:Around} {s:Shared},dpN x<=n->NkIs s.heap x v->NkIs s.heap y u->A.units+n<cLine->SeqAt.EqAt A s v u (decide (x=y)):=by
 intro n
 induction n with
 |zero=>
  intro x y v u A s hd hx hy hu
  cases hx with
  |tup=>rw [dpN] at hd;omega
  |non=>
   cases hy with
   |non=>rw [bC rfl];exact SeqAt.EqAt.same _
   |int=>rw [bh (fun z=>nomatch z)];exact SeqAt.EqAt.none_int _ _
   |str=>rw [bh (fun z=>nomatch z)];exact SeqAt.EqAt.none_str _ _
   |tup h1 h2 h3 h4=>rw [bh (fun z=>nomatch z)];exact SeqAt.EqAt.none_tuple (zAC _ h1 h2 ⟨_,h3⟩) hu
  | @int i t=>
   cases hy with
   |non=>rw [bh (fun z=>nomatch z)];exact SeqAt.EqAt.int_none _ _
   | @int j _=>
    have e:decide (WData.int i=WData.int j)=(i==j):=by rw [eh,eo,zq57];exact ⟨fun z=>by injection z,fun z=>by rw [z]⟩
    rw [e];exact SeqAt.EqAt.int_int _ _ _ _
   |str=>rw [bh (fun z=>nomatch z)];exact SeqAt.EqAt.int_str _ _ _ _
   |tup h1 h2 h3 h4=>rw [bh (fun z=>nomatch z)];exact SeqAt.EqAt.int_tuple _ _ (zAC _ h1 h2 ⟨_,h3⟩) hu
  | @str i t=>
   cases hy with
   |non=>rw [bh (fun z=>nomatch z)];exact SeqAt.EqAt.str_none _ _
   |int=>rw [bh (fun z=>nomatch z)];exact SeqAt.EqAt.str_int _ _ _ _
   | @str j _=>
    have e:decide (WData.str i=WData.str j)=(i==j):=by rw [eh,eo,zq57];exact ⟨fun z=>by injection z,fun z=>by rw [z]⟩
    rw [e];exact SeqAt.EqAt.str_str _ _ _ _
   |tup h1 h2 h3 h4=>rw [bh (fun z=>nomatch z)];exact SeqAt.EqAt.str_tuple _ _ (zAC _ h1 h2 ⟨_,h3⟩) hu
 |succ n ih=>
  intro x y v u A s hd hx hy hu;have hu0:A.units<cLine:=by omega
  cases hx with
  |non=>exact ih (bT _) .non hy Jlk
  |int=>exact ih (bT _) .int hy Jlk
  |str=>exact ih (bT _) .str hy Jlk
  | @tup a oa ia na xs h1 h2 h3 h4=>
   cases hy with
   |non=>rw [bh (fun z=>nomatch z)];exact SeqAt.EqAt.tuple_none (zAC _ h1 h2 ⟨_,h3⟩) hu0
   |int=>rw [bh (fun z=>nomatch z)];exact SeqAt.EqAt.tuple_int _ _ (zAC _ h1 h2 ⟨_,h3⟩) hu0
   |str=>rw [bh (fun z=>nomatch z)];exact SeqAt.EqAt.tuple_str _ _ (zAC _ h1 h2 ⟨_,h3⟩) hu0
   | @tup b ob ib nb ys g1 g2 g3 g4=>
    by_cases hab:a=b
    ·subst hab;rw [bC (NkIs.inj (NkIs.tup h1 h2 h3 h4) (NkIs.tup g1 g2 g3 g4))];exact SeqAt.EqAt.same _
    ·have la:ia.size=xs.length:=by rw [<- ja,h4.length]
     have lb:ib.size=ys.length:=by rw [<- ja,g4.length]
     rw [dpN] at hd;have z:=SeqAt.RcAt.tuples (A:=A) (e:=fun j=>decide (xs[j]?=ys[j]?)) (show s.heap.IsTuple a ia from zAC _ h1 h2 ⟨_,h3⟩) (show s.heap.IsTuple b ib from zAC _ g1 g2 ⟨_,g3⟩) hu0 fun j j1 j2=>by
      obtain ⟨k,hk,hkv⟩:=h4.at (j:=j) (u:=ia[j]) (by rw [qF,sN j1]);obtain ⟨l,hl,hlv⟩:=g4.at (j:=j) (u:=ib[j]) (by rw [qF,sN j2]);have e:decide (xs[j]?=ys[j]?)=decide (k=l):=by rw [hk,hl,eh,eo,eo];exact ⟨fun z=>Option.some.inj z,fun z=>by rw [z]⟩
      rw [e];exact ih (dX (jB (bg hk)) Jlk) hkv hlv (by rw [Around.in1_units];omega)
     rw [la,lb,Bu] at z;exact SeqAt.EqAt.of_refs hab z
theorem z7:∀(n:Nat){x:WData} {v:Value} {A:Around} {s:Shared} {Q:Bool->Shared->Prop},dpN x<=n->NkIs s.heap x v->Q true s->wpAny (model prog w) A (eqIsQuiet n v) Q E s:=by
 intro n
 induction n with
 |zero=>
  intro x v A s Q hd hx q
  cases hx with
  |tup=>rw [dpN] at hd;omega
  |non=>rw [eqIsQuiet_byValue 0 rfl];exact zq3 q
  |int=>rw [eqIsQuiet_byValue 0 rfl];exact zq3 q
  |str=>rw [eqIsQuiet_byValue 0 rfl];exact zq3 q
 |succ n ih=>
  intro x v A s Q hd hx q
  cases hx with
  |non=>rw [eqIsQuiet_byValue _ rfl];exact zq3 q
  |int=>rw [eqIsQuiet_byValue _ rfl];exact zq3 q
  |str=>rw [eqIsQuiet_byValue _ rfl];exact zq3 q
  | @tup a oa ia na xs h1 h2 h3 h4=>
   rw [dpN] at hd;have hT:s.TypeIs (.ref a) "tuple":=zn _ h1 h2
   unfold eqIsQuiet;refine zq0 (wpAny_specialOf hT F.slot_tuple_eq.lookup (zq0 (wpAny_isInstance hT isSubtype_tuple_tuple ?_)));rw [zq1 Jkm];refine zq0 (wpAny_seqItems h1 h3 (zq0 ?_));show wpAny _ _ (forIn ia _ _) _ _ s;rw [<- Array.forIn_toList];refine wpAny_forIn_list _ (fun dW r s'=>r.1=none/\s'=s/\∃left,NksIs s.heap left dW/\∀k∈left,dpN k<=n) _ ?_ ?_ _ _ (zAB rfl rfl (zn xs h4 (fun k hk=>dX (jB hk) Jlk)))
   ·rintro u dW r s' ⟨hr,rfl,left,hl,hk⟩
    cases hl with
    | @cons k _ ks _ l1 l2=>refine zq0 (ih (hk k (cN ..)) l1 ?_);rw [zq1 Jkm];exact zq3 (zAB rfl rfl (zn ks l2 fun j hj=>hk j (b7 _ hj)))
   ·rintro ⟨r1,r2⟩ s' ⟨hr,rfl,_⟩;have e:r1=none:=hr;subst e;exact zq3 q
end
def mK(prog:Program)(w:World):HeapKind prog w WData where
 is:=fun h k a=>NkIs h k (.ref a)/\dpN k<=8
 hash:=hashW w.params
 draws:=tkN
 room:=fun A=>A.units+8<cLine
 inj:=fun hx hy=>hx.1.inj hy.1
 keeps:=fun x ho hd hs=>⟨x.1.keep fun a o its n e ed=>(hs.2 a fun z=>by
  subst z;rw [ho] at e
  cases e
  rw [hd] at ed
  cases ed).trans e,x.2⟩
 pyHash:=fun hu hk h=>tV hk.1 (by have:=hk.2;omega) h
 eqBool:=fun hu hx hy h=>Hu 8 hx.2 hx.1 hy.1 hu _ _ _ _ h
 quiet:=fun hk h=>z7 8 hk.2 hk.1 h
end GV
namespace L2
open PySem PySem.Spec PySem.W PyProof.Rows GV
variable {H':Hp} {Q:VK} {td:TE}
mutual
inductive NkV (K:W.Frag) (H:Hp):WData->V->Prop where
 |non:NkV K H .none .non
 |int {i:Int}:NkV K H (.int i) (.int i)
 |str {x:Str}:NkV K H (.str x) (.str x)
 |tup {a:Addr} {xs:List WData} {vs:List V}:SqT K H a vs->NksV K H xs vs->NkV K H (.tuple xs) (.ref a)
inductive NksV (K:W.Frag) (H:Hp):List WData->List V->Prop where
 |nil:NksV K H [] []
 |cons {k:WData} {x:V} {ks:List WData} {xs:List V}:NkV K H k x->NksV K H ks xs->NksV K H (k::ks) (x::xs)
end
mutual
theorem NkV.keep{K:W.Frag}{H:Hp}(t:TSame H H'):∀{k:WData} {x:V},NkV K H k x->NkV K H' k x
 |_,_,.non=>.non
 |_,_,.int=>.int
 |_,_,.str=>.str
 |_,_,.tup h1 h2=>.tup (t.seqT h1) (NksV.keep t h2)
theorem NksV.keep{K:W.Frag}{H:Hp}(t:TSame H H'):∀{k:List WData} {x:List V},NksV K H k x->NksV K H' k x
 |_,_,.nil=>.nil
 |_,_,.cons h1 h2=>.cons (NkV.keep t h1) (NksV.keep t h2)
end
theorem NksV.of{K:W.Frag}{H:Hp}{α:Type}{f:α->WData}{g:α->V}:∀{l:List α},(∀x∈l,NkV K H (f x) (g x))->NksV K H (l.map f) (l.map g)
 | [],_=>.nil
 |x::l,h=>.cons (h x (cN ..)) (NksV.of fun y hy=>h y (b7 _ hy))
section
variable {X:Cx} {pins:List (Addr×Obj)} {σ:St} {H:Hp} {s:Shared}
mutual
theorem NkV.is(I:Inv X pins σ H s):∀{k:WData} {x:V} {u:Value},NkV X.K H k x->RelV x u->NkIs s.heap k u
 |_,_,_,.non,r=>by cases r;exact .non
 |_,_,_,.int,r=>by obtain ⟨t,rfl⟩:=r;exact .int
 |_,_,_,.str,r=>by obtain ⟨t,rfl⟩:=r;exact .str
 |_,_,_,.tup h1 h2,r=>by
  cases r
  obtain ⟨its,rv,⟨o,e1,e2,n,e3⟩,_⟩:=I.tuple h1;exact .tup e1 e2 e3 (NksV.is I h2 (by simpa using rv))
theorem NksV.is(I:Inv X pins σ H s):∀{k:List WData} {x:List V} {u:List Value},NksV X.K H k x->Vals x u->NksIs s.heap k u
 |_,_,_,.nil,r=>by cases r;exact .nil
 |_,_,_,.cons h1 h2,r=>by
  cases r with
  |cons r1 r2=>exact .cons (NkV.is I h1 r1) (NksV.is I h2 r2)
end
end
def kN(pr:Params)(d:Addr)(es:List (WData×Addr×V)):HO:=.ext fun h=>es.length<=sizeLine/\(d==sysModules)=false/\∃(xs:List (WData×Addr×Value)) (o:Obj) (en:Array DictEntry) (ep:Nat),
 Paired (fun (p:WData×Addr×V) (q:WData×Addr×Value)=>p.1=q.1/\p.2.1=q.2.1/\RelV p.2.2 q.2.2) es xs/\h.get? d=some o/\o.ExactDict/\o.data=.dict en ep/\en.toList=xs.map (fun x=>(⟨hashW pr x.1,.ref x.2.1,x.2.2⟩:DictEntry))/\(xs.map (·.1)).Nodup
def DnAt(pr:Params)(K:W.Frag)(H:Hp)(d:Addr)(kvs:List (WData×V)):Prop:=∃es:List (WData×Addr×V),H d=some (kN pr d es)/\kvs=es.map (fun p=>(p.1,p.2.2))/\∀p∈es,NkV K H p.1 (.ref p.2.1)/\dpN p.1<=8
theorem DnAt.same{pr:Params}{K:W.Frag}{H:Hp}{d:Addr}{kvs:List (WData×V)}(h:DnAt pr K H d kvs)(s:Same H H'):DnAt pr K H' d kvs:=by obtain ⟨es,h1,h2,h3⟩:=h;exact zAC es (s _ _ h1) h2 fun p hp=>⟨(h3 p hp).1.keep s.ts,(h3 p hp).2⟩
section
variable {X:Cx} {pins:List (Addr×Obj)} {σ:St} {H:Hp} {s:Shared} {d:Addr} {kvs:List (WData×V)} {es:List (WData×Addr×V)}
abbrev DnR (kv:WData×V) (x:WData×Addr×Value):Prop:=kv.1=x.1/\RelV kv.2 x.2.2
theorem qU{xs:List (WData×Addr×Value)}:∀{es:List (WData×Addr×V)} {xs:List (WData×Addr×Value)},Paired (fun (p:WData×Addr×V) (q:WData×Addr×Value)=>p.1=q.1/\p.2.1=q.2.1/\RelV p.2.2 q.2.2) es xs->Paired DnR (es.map fun p=>(p.1,p.2.2)) xs
 |_,_,.nil=>.nil
 |_,_,.cons h t=>.cons ⟨h.1,h.2.2⟩ (qU (xs:=xs) t)
theorem tL:∀{es:List (WData×Addr×V)} {xs:List (WData×Addr×Value)},Paired (fun (p:WData×Addr×V) (q:WData×Addr×Value)=>p.1=q.1/\p.2.1=q.2.1/\RelV p.2.2 q.2.2) es xs->∀q∈xs,∃p∈es,p.1=q.1/\p.2.1=q.2.1
 |_,_,.nil=>fun q h=>by cases h
 |_,_,.cons h t=>fun q hq=>by
  rcases zq11.mp hq with rfl | hq
  ·exact zAC _ (cN ..) h.1 h.2.1
  ·obtain ⟨p,hp,e⟩:=tL t q hq;exact zn p (b7 _ hp) e
theorem qV:∀{kvs:List (WData×V)} {xs:List (WData×Addr×Value)} (k:WData),Paired DnR kvs xs->RelO (ce kvs k) ((atKey xs k).map (·.2))
 |_,_,k,.nil=>trivial
 |_,_,k,.cons (a:=a) (b:=b) (l₂:=l) h t=>by
  by_cases e:a.1=k
  ·rw [dc e,show atKey (b::l) k=some b.2 by simp [atKey,List.find?_cons,<- h.1,e]];exact h.2
  ·rw [cT e,show atKey (b::l) k=atKey l k by simp [atKey,List.find?_cons,<- h.1,e]];exact qV k t
theorem xM(I:Inv X pins σ H s)(h1:H d=some (kN X.w.params d es))(h3:∀p∈es,NkV X.K H p.1 (.ref p.2.1)/\dpN p.1<=8):es.length<=sizeLine/\(d==sysModules)=false/\∃xs,Paired (fun (p:WData×Addr×V) (q:WData×Addr×Value)=>p.1=q.1/\p.2.1=q.2.1/\RelV p.2.2 q.2.2) es xs/\s.heap.DictOfH (mK X.prog X.w) d xs:=by obtain ⟨⟨z,hd,xs,o,en,ep,rel,e1,e2,e3,e4,e5⟩,_⟩:=I.hok d _ h1;refine zAB z hd (zn xs rel (zBA o en ep e1 e2 e3 e4 (fun x hx=>?_) e5));obtain ⟨p,hp,ek,ea⟩:=tL rel x hx;obtain ⟨hk,hd8⟩:=h3 p hp;rw [<- ek,<- ea];exact ⟨hk.is I rfl,hd8⟩
theorem xK(I:Inv X pins σ H s)(h:DnAt X.w.params X.K H d kvs):kvs.length<=sizeLine/\(d==sysModules)=false/\∃xs,Paired DnR kvs xs/\s.heap.DictOfH (mK X.prog X.w) d xs:=by obtain ⟨es,h1,rfl,h3⟩:=h;obtain ⟨z,hd,xs,rel,dd⟩:=xM I h1 h3;exact zAB (by rw [zq4];exact z) hd (zn xs (qU (xs:=xs) rel) dd)
theorem lW{α β:Type}{F:α->β->Prop}{a:α}{b:β}(hf:F a b):∀{l:List α} {m:List β},Paired F l m->Paired F (l++[a]) (m++[b])
 |_,_,.nil=>.cons hf .nil
 |_,_,.cons h t=>.cons h (lW hf t)
end
section
variable {X:Cx}
theorem tM{A:Around}(hu:A.units+9<cLine):A.in1.units+8<cLine:=by rw [Around.in1_units];omega
def A6(pr:Params):TE:=fun _ H Q=>∀p,H p=none->Q (.ref p) (upd H p (kN pr p []))
theorem tN{pr:Params}{d:Addr}{es:List (WData×Addr×V)}{φ:Heap->Prop}(e:kN pr d es=.ext φ):∀h1 h2:Heap,φ h1->(∀o,h1.get? d=some o->h2.get? d=some o)->φ h2:=by
 unfold kN at e
 cases e
 rintro h1 h2 ⟨z,hd,xs,o,en,ep,rel,e1,r⟩ k;exact zAB z hd (zBD xs o en ep (zAB rel (k _ e1) r))
theorem wZ{pos:Pos}:XE X (.Dict [] [] pos) (A6 X.w.params):=⟨fun pins s σ H Q I h=>
 wpAny_Dict_empty ⟨.ref s.heap.objs.size,_,I.laid (a:=s.heap.objs.size) (o:=kN X.w.params s.heap.objs.size []) (t':=s.toks) (fun _ _ q=>bO _ q) (zq6 _)
  (zAB (zAB (bT _) (beq_eq_false_iff_ne.mpr (Ne.symm (cf I.big))) (zBB ([]) _ (#[]) 0 .nil (cF _ rfl) (zAB rfl rfl rfl) rfl rfl vf)) ⟨_,cF _ rfl⟩ (tN rfl)),rfl,h _ (I.hok.fresh (zq6 _))⟩⟩
theorem uv{pr:Params}{σ:St}{H:Hp}:A6 pr σ H Q=∀p,H p=none->Q (.ref p) (upd H p (kN pr p [])):=rfl
theorem DnAt.new{pr:Params}{K:W.Frag}{H:Hp}{p:Addr}:DnAt pr K (upd H p (kN pr p [])) p []:=zAC ([]) ae rfl (fun p hp=>by cases hp)
def A4(pr:Params)(K:W.Frag)(td tk:TE):TE:=fun σ H Q=>td σ H fun x H1=>tk σ H1 fun y H2=>∃(d b:Addr)(kvs:List (WData×V)) (k:WData) (v:V),x=.ref d/\y=.ref b/\DnAt pr K H2 d kvs/\NkV K H2 k (.ref b)/\dpN k<=8/\ce kvs k=some v/\Q v H2
theorem wX{o i:Expr}{pos:Pos}{tk:TE}(hu:X.A.units+9<cLine)(ho:XE X o td)(hi:XE X i tk)(hs:Ek i):XE X (.Subscript o i pos) (A4 X.w.params X.K td tk):=⟨by
 intro pins s σ H Q I h;refine uU PySem.F.slot_dict_getitem.lookup hs (thn (ho.h pins s σ H _ I h) fun u s1 ⟨x,H1,I1,rx,q1⟩=>thn (hi.h pins s1 σ H1 _ I1 q1) fun iv s2 hhx=>?_);obtain ⟨y,H2,I2,ry,d,b,kvs,k,v,ex,ey,hD,hk,hk8,hv,q2⟩:=hhx;subst ex ey
 cases rx
 cases ry
 obtain ⟨z,hd,xs,rel,dd⟩:=xK I2 hD;have rk:=qV k rel;rw [hv] at rk
 cases hp:atKey xs k with
 |none=>rw [hp] at rk;exact rk.elim
 |some p=>rw [hp] at rk;exact ⟨dd.typeIs,wpAny_getItem_heap (knd:=mK X.prog X.w) (tM hu) ⟨hk.is I2 rfl,hk8⟩ dd hp (zAA v H2 (I2.tok _) rk q2)⟩⟩
theorem i4{pr:Params}{K:W.Frag}{tk:TE}{σ:St}{H:Hp}:A4 pr K td tk σ H Q=td σ H fun x H1=>tk σ H1 fun y H2=>∃(d b:Addr)(kvs:List (WData×V)) (k:WData) (v:V),x=.ref d/\y=.ref b/\DnAt pr K H2 d kvs/\NkV K H2 k (.ref b)/\dpN k<=8/\ce kvs k=some v/\Q v H2:=rfl
def CZ(pr:Params)(K:W.Frag):List V->Hp->VK->Prop:=fun xs H Q=>∃(d:Addr)(kvs:List (WData×V)),xs=[.ref d]/\DnAt pr K H d kvs/\Q (.int kvs.length) H
theorem vA:dM X (.builtin "len") (CZ X.w.params X.K):=by
 intro pins s σ H xs us Q I r h;obtain ⟨d,kvs,rfl,hD,q⟩:=h;obtain ⟨u,rfl,ru⟩:=fu r
 cases ru
 obtain ⟨z,hd,xs,rel,o,en,ep,e1,e2,e3,e4,e5,e6⟩:=xK I hD;have hsz:en.size=kvs.length:=by rw [<- ja,e4,zq4];exact (Paired.length rel).symm
 have hT:s.TypeIs (.ref d) "dict":=zn o e1 e2.1
 rw [b9] at z;refine Calls.call_function_entry kind_len plain_len entry_len (args_len1 _) ?_;unfold Builtin.«len»;refine zq0 (zq3 (zq0 (wpAny_callSpecial?_slot (name:=Str.ofString "__len__") hT F.slot_dict_len (wpAny_call_entry F.slot_dict_len hT F.entry_dict_len ?_ (F.args_dict_len_1 _)))));unfold Builtin.«dict.__len__»;refine zq0 (zq3 (zq0 (zq3 (zq0 ?_))));unfold dictSize;refine zq0 (wpAny_dictEntries e1 e3 (zq3 (zq0 (wpAny_pendingCount_other hd (wpAny_ret_mkInt ?_)))));rw [hsz,show ((kvs.length:Int)+((0:Nat):Int))=(kvs.length:Int) from Int.add_zero _];refine zq0 (kD (zq3 (zq0 (wpAny_letGo ?_))));have n0:¬((kvs.length:Int)<0):=by omega
 have n63:¬((kvs.length:Int) ≥ 2 ^ 63):=by omega
 refine qw (fun h=>absurd h n0) fun _=>qw (fun h=>absurd h n63) fun _=>?_;exact zq0 (wpAny_mkInt (zq3 (zn _ rfl (zAA (.int kvs.length) H (I.tok _) ⟨_,rfl⟩ q))))
theorem rW{pr:Params}{K:W.Frag}{d:Addr}{H:Hp}:CZ pr K [.ref d] H Q=∃kvs:List (WData×V),DnAt pr K H d kvs/\Q (.int kvs.length) H:=propext ⟨by rintro ⟨_,kvs,e,q⟩;cases e;exact ⟨kvs,q⟩,fun ⟨kvs,q⟩=>zAE _ kvs rfl q⟩
def A9(pr:Params)(K:W.Frag)(td:TE)(t:TA):TE:=fun σ H Q=>td σ H fun x H1=>∃d:Addr,x=.ref d/\(∃kvs,DnAt pr K H1 d kvs)/\t σ H1 fun vs H2=>∃(b:Addr)(kvs:List (WData×V)) (k:WData) (v:V),vs=[.ref b,v]/\DnAt pr K H2 d kvs/\NkV K H2 k (.ref b)/\dpN k<=8/\kvs.length<sizeLine/\
 (∀y,ce kvs k=some y->Q y H2)/\(ce kvs k=none->∀o,DnAt pr K (upd H2 d o) d (kvs++[(k,v)])->Q v (upd H2 d o))
theorem C7{o e:Expr}{es:List Expr}{td:TE}{t:TA}{apos cpos:Pos}(hu:X.A.units+9<cLine)(ho:PE X o td)(ha:PA X (e::es) t)
  (hbase:attributeBase o "setdefault" X.env (eval o X.env)=eval o X.env:=by rfl)
  (hfew:((backTo cpos (starEach (e::es) X.env)).all (fun x=>! x.1)&&(backToKw cpos (keywordEach [] X.env)).all (fun x=>x.1.isSome)&&decide ((e::es).length+([]:List Keyword).length+(if ([]:List Keyword).isEmpty then 0 else 1)<30))=true:=by rfl)
  (hline:(apos.endLine==cpos.line)=true:=by rfl) (hs:starEach (e::es) X.env=(false,eval e X.env)::starEach es X.env:=by rfl) (hplain:(backTo cpos (starEach es X.env)).any (·.1)=false:=by rfl) :
  PE X (.Call (.Attribute o "setdefault" apos) (e::es) [] cpos) (A9 X.w.params X.K td t):=by
 intro pins s σ H Q I h;refine wpAny_Call_method_late hbase hfew hline rfl (thn (ho pins s σ H _ I h) fun v s1 ⟨x,H1,I1,r1,d,ex,⟨kv0,hD0⟩,q1⟩=>?_);subst ex
 cases r1
 obtain ⟨_,_,xs0,_,dd0⟩:=xK I1 hD0;refine zAZ ("dict") _ PySem.F.plainAttrs_dict PySem.F.slot_dict_setdefault PySem.F.type_dict_setdefault dd0.typeIs (dictOfH_noDict dd0) ?_;have hA:=ha cpos pins s1 σ H1 _ I1 q1;rw [hs] at hA ⊢;refine Calls.callWith_builtin (by show (false || (backTo cpos (starEach es X.env)).any (·.1))=false;rw [hplain]<;>rfl) (Calls.evalArgs_plain (thn hA fun us s2 hhx=>?_));obtain ⟨vs,H2,I2,r2,q2⟩:=hhx;obtain ⟨b,kvs,k,v,rfl,hD,hk,hk8,hz,hq1,hq2⟩:=q2;obtain ⟨u1,u2,rfl,rb,rv⟩:=Ai r2
 cases rb
 obtain ⟨es2,h1,rfl,h3⟩:=hD;obtain ⟨z,hd,xs,rel,dd⟩:=xM I2 h1 h3;have hlen:=Paired.length rel;have rk:=qV k (qU (xs:=xs) rel);refine call_meetsIn PySem.F.slot_dict_setdefault dd.typeIs PySem.F.entry_dict_setdefault (PySem.F.args_dict_setdefault_3 _ _ _) (gm (mK X.prog X.w) d b hd u2) ⟨tM hu,zAP k xs ⟨hk.is I2 rfl,hk8⟩ dd Jlk (fun p hp=>?_) fun hn h' dd' hs'=>?_⟩
 ·rw [hp] at rk
  cases hv:ce (es2.map fun p=>(p.1,p.2.2)) k with
  |none=>rw [hv] at rk;exact rk.elim
  |some y=>rw [hv] at rk;exact zAA y H2 (I2.tok _) rk (hq1 y hv)
 ·rw [hn] at rk;have hv:ce (es2.map fun p=>(p.1,p.2.2)) k=none:=by
   cases hv:ce (es2.map fun p=>(p.1,p.2.2)) k with
   |none=>rfl
   |some y=>rw [hv] at rk;exact rk.elim
  obtain ⟨q,en,ep,hq,f2,f3,f4,_,f5⟩:=dd';refine zAA v _ (gQ (ob:=kN X.w.params d (es2++[(k,b,v)])) I2 (by rw [h1];exact True.intro) hs' ⟨q,hq⟩ (zAB (zAB (by rw [zq8,bV];rw [zq4] at hz;omega) hd (zBB (xs++[(k,b,u2)]) q en ep (lW ⟨rfl,rfl,rv⟩ rel) hq f2 f3 f4 f5)) ⟨q,hq⟩ (tN rfl))) rv (hq2 hv _ (zAC (es2++[(k,b,v)]) ae (by rw [cq];rfl) fun p hp=>?_))
  ·have tt:TSame H2 (upd H2 d (kN X.w.params d (es2++[(k,b,v)]))):=⟨fun c ys e=>by rw [ao (du e h1 (fun z=>nomatch z))];exact e,fun c o u e=>by rw [ao (du e h1 (fun z=>nomatch z))];exact e⟩
   rcases zq20.mp hp with z | z
   ·exact ⟨(h3 p z).1.keep tt,(h3 p z).2⟩
   ·rw [zq9.mp z];exact ⟨hk.keep tt,hk8⟩
theorem An{o e:Expr}{es:List Expr}{td:TE}{t:TA}{apos cpos:Pos}(hu:X.A.units+9<cLine)(ho:XE X o td)(ha:XA X (e::es) t)
  (hbase:attributeBase o "setdefault" X.env (eval o X.env)=eval o X.env:=by rfl)
  (hfew:((backTo cpos (starEach (e::es) X.env)).all (fun x=>! x.1)&&(backToKw cpos (keywordEach [] X.env)).all (fun x=>x.1.isSome)&&decide ((e::es).length+([]:List Keyword).length+(if ([]:List Keyword).isEmpty then 0 else 1)<30))=true:=by rfl)
  (hline:(apos.endLine==cpos.line)=true:=by rfl) (hs:starEach (e::es) X.env=(false,eval e X.env)::starEach es X.env:=by rfl) (hplain:(backTo cpos (starEach es X.env)).any (·.1)=false:=by rfl) :
  XE X (.Call (.Attribute o "setdefault" apos) (e::es) [] cpos) (A9 X.w.params X.K td t):=⟨C7 hu ho.h ha.h hbase hfew hline hs hplain⟩
theorem rY{pr:Params}{K:W.Frag}{t:TA}{σ:St}{H:Hp}:A9 pr K td t σ H Q=td σ H fun x H1=>∃d:Addr,x=.ref d/\(∃kvs,DnAt pr K H1 d kvs)/\t σ H1 fun vs H2=>∃(b:Addr)(kvs:List (WData×V)) (k:WData) (v:V),vs=[.ref b,v]/\DnAt pr K H2 d kvs/\NkV K H2 k (.ref b)/\dpN k<=8/\kvs.length<sizeLine/\
 (∀y,ce kvs k=some y->Q y H2)/\(ce kvs k=none->∀o,DnAt pr K (upd H2 d o) d (kvs++[(k,v)])->Q v (upd H2 d o)):=rfl
end
end L2
namespace GX
section
variable {α β:Type} [DecidableEq α] [DecidableEq β]
def ksF(l:List α):List α:=l.foldl (fun ks m=>if m∈ks then ks else ks++[m]) []
theorem cg{l:List α}{m:α}:ksF (l++[m])=if m∈ksF l then ksF l else ksF l++[m]:=by unfold ksF;rw [qJ];rfl
theorem kl{P:List α->Prop}(h0:P [])(hs:∀l x,P l->P (l++[x]))(l:List α):P l:=by
 have key:∀(n:Nat)(l:List α),l.length=n->P l:=by
  intro n
  induction n with
  |zero=>intro l h;rw [zq66.mp h];exact h0
  |succ n ih=>
   intro l h;have hne:l≠[]:=fun z=>by rw [z] at h;simp at h
   rw [<- AC hne];exact hs _ _ (ih _ (by rw [nv];omega))
 exact key l.length l rfl
theorem fP(l:List α):(∀x,x∈ksF l↔x∈l)/\(ksF l).Nodup/\(ksF l).length<=l.length:=by
 refine kl (P:=fun l=>(∀x,x∈ksF l↔x∈l)/\(ksF l).Nodup/\(ksF l).length<=l.length) (zAB (fun x=>by simp [ksF]) (by simp [ksF]) (by simp [ksF])) (fun l m ih=>?_) l;obtain ⟨h1,h2,h3⟩:=ih;rw [cg]
 by_cases h:m∈ksF l
 ·rw [zq2 h];refine zAB (fun x=>?_) h2 (by rw [zq8];omega);rw [h1,zq20,zq9];exact ⟨.inl,fun z=>z.elim id fun z=>by rw [z];exact (h1 m).mp h⟩
 ·rw [zq1 h];refine zAB (fun x=>by rw [zq20,zq20,h1]) ?_ (by rw [zq8,zq8];simp;exact h3);rw [zq65];refine zAB h2 Jll fun a ha b hb e=>h ?_;rw [zq9.mp hb] at e;rw [<- e];exact ha
theorem mem_ksF{l:List α}{x:α}:x∈ksF l↔x∈l:=(fP l).1 x
def dz(l:List α):List Nat:=l.map fun m=>(ksF l).idxOf m
theorem dR{l:List α}:(dz l).length=l.length:=by unfold dz;rw [zq4]
theorem gY{l:List α}{i:Nat}{x:α}(h:l[i]?=some x):(dz l)[i]?=some ((ksF l).idxOf x):=by unfold dz;rw [bq,h];rfl
theorem tX{l:List α}{x y:α}(hx:x∈l)(e:l.idxOf x=l.idxOf y):x=y:=by
 have h1:=qz hx;have h2:l[l.idxOf x]'h1=x:=xg h1;have h3:l.idxOf y<l.length:=by rw [<- e];exact h1
 have h4:l[l.idxOf y]'h3=y:=xg h3;rw [<- h2,<- h4];congr 1
theorem d9{l:List α}{i j:Nat}{x y:α}(hi:l[i]?=some x)(hj:l[j]?=some y):(dz l)[i]?=(dz l)[j]?↔x=y:=by
 rw [gY hi,gY hj]
 constructor
 ·intro e;exact tX (mem_ksF.mpr (bg hi)) (Option.some.inj e)
 ·rintro rfl;rfl
theorem take_mem{l:List α}{k:Nat}{x:α}:x∈l.take k↔∃i,i<k/\l[i]?=some x:=by
 rw [zq55]
 constructor
 ·rintro ⟨i,h⟩;rw [AD] at h
  split at h
  ·exact zn i (by assumption) h
  ·cases h
 ·rintro ⟨i,hi,h⟩;exact ⟨i,by rw [AD,zq2 hi];exact h⟩
theorem BM{a:List α}{b:List β}(hl:a.length=b.length)(h:∀(i j:Nat)(x x':α)(y y':β),a[i]?=some x->a[j]?=some x'->b[i]?=some y->b[j]?=some y'->(x=x'↔y=y')):
  ∀k,k<=a.length->(ksF (a.take k)).length=(ksF (b.take k)).length/\∀(i:Nat)(x:α)(y:β),i<k->a[i]?=some x->b[i]?=some y->(ksF (a.take k)).idxOf x=(ksF (b.take k)).idxOf y:=by
 intro k
 induction k with
 |zero=>intro _;exact ⟨by simp [ksF],fun i x y hi=>Jlk⟩
 |succ k ih=>
  intro hk;obtain ⟨ih1,ih2⟩:=ih Jlk;have ha:k<a.length:=hk;have hb:k<b.length:=by omega
  have ea:a[k]?=some a[k]:=zq5 ha;have eb:b[k]?=some b[k]:=zq5 hb;rw [df ha,df hb,cg,cg];have hm:a[k]∈ksF (a.take k)↔b[k]∈ksF (b.take k):=by
   rw [mem_ksF,mem_ksF,take_mem,take_mem]
   constructor
   ·rintro ⟨i,hi,e⟩;have e2:b[i]?=some b[i]:=zq5 Jlk;exact zn i hi (by rw [e2,(h i k _ _ _ _ e ea e2 eb).mp rfl])
   ·rintro ⟨i,hi,e⟩;have e2:a[i]?=some a[i]:=zq5 Jlk;exact zn i hi (by rw [e2,(h i k _ _ _ _ e2 ea e eb).mpr rfl])
  by_cases hc:a[k]∈ksF (a.take k)
  ·rw [zq2 hc,zq2 (hm.mp hc)];refine ⟨ih1,fun i x y hi hx hy=>?_⟩
   by_cases hik:i<k
   ·exact ih2 i x y hik hx hy
   ·obtain rfl:i=k:=by omega
    obtain ⟨j,hj,e⟩:=take_mem.mp (mem_ksF.mp hc);have e2:b[j]?=some b[j]:=zq5 Jlk;rw [ea] at hx;rw [eb] at hy
    cases hx
    cases hy
    have e3:=(h j i _ _ _ _ e ea e2 eb).mp rfl;have z:=ih2 j _ _ hj e e2;rw [e3] at z;exact z
  ·rw [zq1 hc,zq1 (fun z=>hc (hm.mpr z))];refine ⟨by rw [zq8,zq8,ih1];rfl,fun i x y hi hx hy=>?_⟩
   by_cases hik:i<k
   ·rw [qA,qA,zq2 (mem_ksF.mpr (take_mem.mpr (zn i hik hx))),zq2 (mem_ksF.mpr (take_mem.mpr (zn i hik hy)))];exact ih2 i x y hik hx hy
   ·obtain rfl:i=k:=by omega
    rw [ea] at hx;rw [eb] at hy
    cases hx
    cases hy
    rw [qA,qA,zq1 hc,zq1 (fun z=>hc (hm.mpr z)),ih1,qB,qB]
theorem pd{a:List α}{b:List β}(hl:a.length=b.length)(h:∀(i j:Nat)(x x':α)(y y':β),a[i]?=some x->a[j]?=some x'->b[i]?=some y->b[j]?=some y'->(x=x'↔y=y')):dz a=dz b:=by
 obtain ⟨_,h2⟩:=BM hl h a.length (zq6 _);rw [ef,hl,ef] at h2;apply nz;intro i
 by_cases hi:i<a.length
 ·have ea:a[i]?=some a[i]:=zq5 hi;have eb:b[i]?=some b[i]:=zq5 Jlk;rw [gY ea,gY eb,h2 i _ _ Jlk ea eb]
 ·rw [gf (by rw [dR];omega),gf (by rw [dR];omega)]
theorem lQ{l:List α}:dz (dz l)=dz l:=by refine pd dR fun i j x x' y y' hx hx' hy hy'=>?_;have z:=d9 hy hy';rw [hx,hx'] at z;exact ⟨fun e=>z.mp (by rw [e]),fun e=>Option.some.inj (z.mpr e)⟩
def dS(c:List Nat):Nat:=((List.range c.length).map fun i=>((List.range c.length).countP fun j=>decide (c[i]?=c[j]?))).sum
theorem A0{γ:Type}{f g:γ->Nat}:∀{l:List γ},(∀x∈l,f x<=g x)->(∃x∈l,f x<g x)->(l.map f).sum<(l.map g).sum
 | [],_,⟨x,h,_⟩=>by cases h
 |y::l,h1,⟨x,h,h2⟩=>by
  have hy:=h1 y (cN ..);rw [cm,cm,sO,sO];rcases zq11.mp h with rfl | h
  ·have:(l.map f).sum<=(l.map g).sum:=by
    clear h2 hy
    induction l with
    |nil=>exact zq6 _
    |cons z l ih=>
     rw [cm,cm,sO,sO];have:=h1 z (b7 _ (cN ..));have:=ih (fun w hw=>by
      rcases zq11.mp hw with e | e
      ·exact h1 w (by rw [e];exact cN ..)
      ·exact h1 w (b7 _ (b7 _ e))) (cN ..)
     omega
   omega
  ·have:=A0 (fun z hz=>h1 z (b7 _ hz)) (zn x h h2);omega
theorem l8{γ:Type}{p q:γ->Bool}:∀{l:List γ},(∀x∈l,p x=true->q x=true)->(∃x∈l,p x=false/\q x=true)->l.countP p<l.countP q
 | [],_,⟨x,h,_⟩=>by cases h
 |y::l,h1,⟨x,h,h2,h3⟩=>by
  have mono:l.countP p<=l.countP q:=Ec fun z hz=>h1 z (b7 _ hz);rw [xb,xb];rcases zq11.mp h with rfl | h
  ·rw [h2,h3];simp;omega
  ·have:=l8 (fun z hz=>h1 z (b7 _ hz)) (zAC x h h2 h3)
   cases e:p y with
   |false=>simp;omega
   |true=>rw [h1 y (cN ..) e];simp;omega
theorem yG{l:List α}{c:List Nat}(hl:l.length=c.length)(hc:dz c=c)(hf:∀(i j:Nat)(x:α),l[i]?=some x->l[j]?=some x->c[i]?=c[j]?)(hn:dz l≠c):dS (dz l)<dS c:=by
 have hlen:(dz l).length=c.length:=by rw [dR,hl]
 have fine:∀i j,i<c.length->j<c.length->(dz l)[i]?=(dz l)[j]?->c[i]?=c[j]?:=fun i j hi hj e=>by have ei:l[i]?=some l[i]:=zq5 Jlk;have ej:l[j]?=some l[j]:=zq5 Jlk;have z:=(d9 ei ej).mp e;exact hf i j _ ei (by rw [ej,z])
 have ex:∃i j,i<c.length/\j<c.length/\c[i]?=c[j]?/\¬(dz l)[i]?=(dz l)[j]?:=kG fun hno=>hn (by
  rw [<- hc];refine pd hl fun i j x x' y y' hx hx' hy hy'=>?_;have hi:=(zq7.mp hy).1;have hj:=(zq7.mp hy').1
  constructor
  ·rintro rfl;have:=hf i j x hx hx';rw [hy,hy'] at this;exact Option.some.inj this
  ·rintro rfl;refine kG fun hne=>hno (zAD i j hi hj (by rw [hy,hy']) fun e=>hne ((d9 hx hx').mp e)))
 obtain ⟨i0,j0,hi0,hj0,e1,e2⟩:=ex;unfold dS;rw [hlen];refine A0 (fun i hi=>Ec fun j hj e=>bC (fine i j (zq33.mp hi) (zq33.mp hj) (of_decide_eq_true e))) (zn i0 (zq33.mpr hi0) (l8 (fun j hj e=>bC (fine i0 j hi0 (zq33.mp hj) (of_decide_eq_true e))) (zAC j0 (zq33.mpr hj0) (bh e2) (bC e1))))
end
end GX
namespace GY
open PySem PySem.W L2 FB FZ GX
variable {c:List Nat}
def vW:V->WData
 | .int i=>.int i
 | .str s=>.str s
 |_=>.none
def kM(d:Deed):WData:=.tuple (d.vs.map vW)
def dm:Ed->WData
 | .choose n _ _=>.tuple [.str "choose",.str n]
 | .go _=>.tuple [.str "go",.none]
 | .stop=>.tuple [.str "stop",.none]
def mk0(b:Blk):WData:=.tuple [.tuple (b.ds.map kM),dm b.ed]
def mk1(c:List Nat)(b:Blk)(own:Nat):WData:=.tuple [.int own,.tuple (b.ed.tg.map fun i=>.int (c.getD i 0))]
def cl0(F:List Blk):List Nat:=dz (F.map mk0)
def nxt(F:List Blk)(c:List Nat):List Nat:=dz (List.zipWith (mk1 c) F c)
theorem jd{o p:Opd}(h:vW o.v=vW p.v):o=p:=by cases o<;>cases p<;>first | (injection h with h;rw [h]) | (cases h)
theorem oi{d e:Deed}(h:kM d=kM e):d=e:=by
 unfold kM at h;injection h with h
 cases d<;>cases e<;>simp only [Deed.vs,List.map_cons,List.map_nil,List.cons.injEq,and_true,reduceCtorEq,and_false] at h
 ·rw [jd h.2]
 ·obtain ⟨_,h2,h3⟩:=h;injection h2 with h2;rw [h2,jd h3]
 ·obtain ⟨h1,h2,h3,h4⟩:=h;injection h1 with h1;injection h2 with h2;rw [h1,h2,jd h3,jd h4]
theorem jc{α β:Type}{f:α->β}(hf:∀x y,f x=f y->x=y):∀{l m:List α},l.map f=m.map f->l=m
 | [],[],_=>rfl
 | [],_::_,h=>by cases h
 |_::_,[],h=>by cases h
 |x::l,y::m,h=>by rw [cm,cm] at h;injection h with h1 h2;rw [hf x y h1,jc hf h2]
theorem mk0_iff{a b:Blk}:mk0 a=mk0 b↔a.ds=b.ds/\dm a.ed=dm b.ed:=by
 unfold mk0
 constructor
 ·intro h;injection h with h;injection h with h1 h2;injection h2 with h2 _;injection h1 with h1;exact ⟨jc (fun x y e=>oi e) h1,h2⟩
 ·rintro ⟨h1,h2⟩;rw [h1,h2]
theorem mH{e f:Ed}(h:dm e=dm f):e.tg.length=f.tg.length:=by cases e<;>cases f<;>first | rfl | (exfalso;simp only [dm,WData.tuple.injEq,List.cons.injEq,WData.str.injEq] at h;exact absurd h.1 Jkk)
def Bis(F:List Blk)(R:Nat->Nat->Prop):Prop:=∀(i j:Nat)(a b:Blk),F[i]?=some a->F[j]?=some b->R i j->mk0 a=mk0 b/\∀(k p q:Nat),a.ed.tg[k]?=some p->b.ed.tg[k]?=some q->R p q
structure Prt(F:List Blk)(c:List Nat):Prop where
 len:c.length=F.length
 num:dz c=c
 look:∀(i j:Nat)(a b:Blk),F[i]?=some a->F[j]?=some b->c[i]?=c[j]?->mk0 a=mk0 b
 most:∀R,Bis F R->∀(i j:Nat)(a b:Blk),F[i]?=some a->F[j]?=some b->R i j->c[i]?=c[j]?
def Led(F:List Blk):Prop:=∀b∈F,∀i∈b.ed.tg,i<F.length
theorem cls0{F:List Blk}:Prt F (cl0 F) where
 len:=by unfold cl0;rw [dR,zq4]
 num:=lQ
 look:=fun i j a b ha hb e=>(d9 (l:=F.map mk0) (by rw [bq,ha];rfl) (by rw [bq,hb];rfl)).mp e
 most:=fun R hR i j a b ha hb r=>(d9 (l:=F.map mk0) (by rw [bq,ha];rfl) (by rw [bq,hb];rfl)).mpr (hR i j a b ha hb r).1
theorem fg{F:List Blk}(hl:c.length=F.length){i:Nat}{a:Blk}(ha:F[i]?=some a):∃o,c[i]?=some o/\(List.zipWith (mk1 c) F c)[i]?=some (mk1 c a o):=by have hi:=(zq7.mp ha).1;refine zn (c[i]' Jlk) (zq5 Jlk) ?_;rw [List.getElem?_zipWith,ha,zq5 (show i<c.length by omega)]
theorem mI{a b:Blk}{o p:Nat}(h:mk1 c a o=mk1 c b p):o=p/\a.ed.tg.map (fun i=>c.getD i 0)=b.ed.tg.map fun i=>c.getD i 0:=by
 unfold mk1 at h;injection h with h;injection h with h1 h2;injection h2 with h2 _;injection h1 with h1;injection h2 with h2;refine ⟨Int.ofNat.inj h1,?_⟩;have z:(a.ed.tg.map fun i=>c.getD i 0).map (fun n:Nat=>WData.int n)=(b.ed.tg.map fun i=>c.getD i 0).map fun n:Nat=>WData.int n:=by rw [eG,eG];exact h2
 exact jc (fun x y e=>by injection e with e;exact Int.ofNat.inj e) z
theorem kH{F:List Blk}(hl:c.length=F.length):(List.zipWith (mk1 c) F c).length=c.length:=by rw [List.length_zipWith];omega
theorem Jp{F:List Blk}(h:Prt F c)(hL:Led F):Prt F (nxt F c) where
 len:=by unfold nxt;rw [dR,kH h.len,h.len]
 num:=lQ
 look:=fun i j a b ha hb e=>by obtain ⟨o,ho,zo⟩:=fg h.len ha;obtain ⟨p,hp,zp⟩:=fg h.len hb;have z:=mI ((d9 zo zp).mp e);exact h.look i j a b ha hb (by rw [ho,hp,z.1])
 most:=fun R hR i j a b ha hb r=>by
  obtain ⟨o,ho,zo⟩:=fg h.len ha;obtain ⟨p,hp,zp⟩:=fg h.len hb;obtain ⟨hm,hs⟩:=hR i j a b ha hb r;refine (d9 zo zp).mpr ?_;have e1:o=p:=by have:=h.most R hR i j a b ha hb r;rw [ho,hp] at this;exact Option.some.inj this
  have e2:a.ed.tg.map (fun i=>WData.int (c.getD i 0))=b.ed.tg.map fun i=>WData.int (c.getD i 0):=by
   have hl:=mH (mk0_iff.mp hm).2;apply nz;intro k
   by_cases hk:k<a.ed.tg.length
   ·have ek:a.ed.tg[k]?=some a.ed.tg[k]:=zq5 hk;have el:b.ed.tg[k]?=some (b.ed.tg[k]' Jlk):=zq5 Jlk;rw [bq,bq,ek,el];have hp1:=hL a (bg ha) _ (bg ek);have hq1:=hL b (bg hb) _ (bg el);have z:=h.most R hR _ _ _ _ (zq5 hp1) (zq5 hq1) (hs k _ _ ek el);show some (WData.int (c.getD a.ed.tg[k] 0))=some (WData.int (c.getD (b.ed.tg[k]' Jlk) 0));rw [cn,cn,z]
   ·rw [gf (by rw [zq4];omega),gf (by rw [zq4];omega)]
  unfold mk1;rw [e1,e2]
theorem yn{F:List Blk}(h:Prt F c)(hn:nxt F c≠c):dS (nxt F c)<dS c:=by refine yG (kH h.len) h.num (fun i j x hx hy=>?_) hn;have hi:=(zq7.mp hx).1;have hj:=(zq7.mp hy).1;rw [kH h.len,h.len] at hi hj;obtain ⟨o,ho,zo⟩:=fg h.len (zq5 hi);obtain ⟨p,hp,zp⟩:=fg h.len (zq5 hj);rw [zo] at hx;rw [zp] at hy;have e:mk1 c F[i] o=mk1 c F[j] p:=(Option.some.inj hx).trans (Option.some.inj hy).symm;rw [ho,hp,(mI e).1]
theorem zX{F:List Blk}(h:Prt F c)(hs:nxt F c=c){i j:Nat}{a b:Blk}(ha:F[i]?=some a)(hb:F[j]?=some b)(e:c[i]?=c[j]?):a.ed.tg.map (fun i=>c.getD i 0)=b.ed.tg.map fun i=>c.getD i 0:=by obtain ⟨o,ho,zo⟩:=fg h.len ha;obtain ⟨p,hp,zp⟩:=fg h.len hb;rw [<- hs] at e;exact (mI ((d9 zo zp).mp e)).2
end GY
namespace GZ
open PySem PySem.W L2 FB FZ GX GY
variable {cs:List Nat}
def rcl(cs:List Nat)(ws:List Bool)(m:Nat):List Nat:=((List.range m).filter fun i=>ws.getD i false).map fun i=>cs.getD i 0
theorem cE{ws:List Bool}{m:Nat}:rcl cs ws (m+1)=if ws.getD m false then rcl cs ws m++[cs.getD m 0] else rcl cs ws m:=by
 unfold rcl;rw [xc,vh,cq]
 cases h:ws.getD m false
 ·rw [List.filter_cons,h,zq1 Jkm,vm,B0,g9,zq1 Jkm]
 ·rw [List.filter_cons,h,zq2 rfl,vm,cm,B0,zq2 rfl]
theorem mem_rcl{ws:List Bool}{m c:Nat}:c∈rcl cs ws m↔∃i,i<m/\ws.getD i false=true/\cs.getD i 0=c:=by
 unfold rcl;rw [zq43]
 constructor
 ·rintro ⟨i,hi,e⟩;rw [zq67,zq33] at hi;exact zAC i hi.1 hi.2 e
 ·rintro ⟨i,h1,h2,e⟩;exact zn i (by rw [zq67,zq33];exact ⟨h1,h2⟩) e
def plc(cs:List Nat)(ws:List Bool)(ks:List Nat)(i:Nat):Option Nat:=if ws.getD i false then some (ks.idxOf (cs.getD i 0)) else none
def pls(cs:List Nat)(ws:List Bool)(m:Nat):List (Option Nat):=(List.range m).map (plc cs ws (ksF (rcl cs ws m)))
structure Kpt(cs:List Nat)(ws:List Bool)(m:Nat)(kp:List Nat):Prop where
 len:kp.length=(ksF (rcl cs ws m)).length
 at':∀(k i:Nat),kp[k]?=some i->i<m/\ws.getD i false=true/\(ksF (rcl cs ws m))[k]?=some (cs.getD i 0)
theorem C9{ws:List Bool}{ks:List Nat}{c i:Nat}(h:ws.getD i false=true->cs.getD i 0∈ks):plc cs ws (ks++[c]) i=plc cs ws ks i:=by
 unfold plc
 split
 ·rename_i hw
  rw [qA,zq2 (h hw)]
 ·rfl
theorem Ca{ws:List Bool}{m:Nat}(h:ws.getD m false=false):pls cs ws (m+1)=pls cs ws m++[none]:=by unfold pls;rw [cE,zq1 (by rw [h];decide),xc,cq];congr 1;show [plc cs ws _ m]=_;unfold plc;rw [zq1 (by rw [h];decide)]
theorem Ff{ws:List Bool}{m:Nat}(h:ws.getD m false=true):pls cs ws (m+1)=pls cs ws m++[some ((ksF (rcl cs ws (m+1))).idxOf (cs.getD m 0))]:=by
 unfold pls;rw [xc,cq];congr 1
 ·refine qC fun i hi=>?_;rw [cE,zq2 h,cg]
  split
  ·rfl
  ·exact C9 fun hw=>mem_ksF.mpr (mem_rcl.mpr (zAC i (zq33.mp hi) hw rfl))
 ·show [plc cs ws _ m]=_;unfold plc;rw [zq2 h]
theorem Jx{ws:List Bool}:Kpt cs ws 0 []:=⟨by simp [rcl,ksF],fun k i h=>by simp at h⟩
theorem BE{ws:List Bool}{m:Nat}{kp:List Nat}(h:Kpt cs ws m kp)(hw:ws.getD m false=false):Kpt cs ws (m+1) kp:=by
 have e:rcl cs ws (m+1)=rcl cs ws m:=by rw [cE,zq1 (by rw [hw];decide)]
 exact ⟨by rw [e];exact h.len,fun k i hk=>by obtain ⟨h1,h2,h3⟩:=h.at' k i hk;exact zAB Jlk h2 (by rw [e];exact h3)⟩
theorem BD{ws:List Bool}{m:Nat}{kp:List Nat}(h:Kpt cs ws m kp)(hw:ws.getD m false=true)(hc:cs.getD m 0∈ksF (rcl cs ws m)):ksF (rcl cs ws (m+1))=ksF (rcl cs ws m)/\Kpt cs ws (m+1) kp:=by
 have e:ksF (rcl cs ws (m+1))=ksF (rcl cs ws m):=by rw [cE,zq2 hw,cg,zq2 hc]
 exact ⟨e,by rw [e];exact h.len,fun k i hk=>by obtain ⟨h1,h2,h3⟩:=h.at' k i hk;exact zAB Jlk h2 (by rw [e];exact h3)⟩
theorem BC{ws:List Bool}{m:Nat}{kp:List Nat}(h:Kpt cs ws m kp)(hw:ws.getD m false=true)(hc:¬cs.getD m 0∈ksF (rcl cs ws m)):ksF (rcl cs ws (m+1))=ksF (rcl cs ws m)++[cs.getD m 0]/\Kpt cs ws (m+1) (kp++[m]):=by
 have e:ksF (rcl cs ws (m+1))=ksF (rcl cs ws m)++[cs.getD m 0]:=by rw [cE,zq2 hw,cg,zq1 hc]
 refine ⟨e,by rw [e,zq8,zq8,h.len];rfl,fun k i hk=>?_⟩;rw [e]
 by_cases hlt:k<kp.length
 ·rw [gH hlt] at hk;obtain ⟨h1,h2,h3⟩:=h.at' k i hk;exact zAB Jlk h2 (by rw [gH (by rw [<- h.len];exact hlt)];exact h3)
 ·rw [gG Jlk] at hk;have hk0:k-kp.length=0:=by have:=(zq7.mp hk).1;simp at this;omega
  rw [hk0] at hk;have him:m=i:=by simpa using hk
  subst him;refine zAB Jlk hw ?_;rw [gG (by rw [<- h.len];omega),<- h.len,hk0];rfl
def mG(pl:List (Option Nat)):Ed->Ed
 | .stop=>.stop
 | .go i=>.go ((pl.getD i none).getD 0)
 | .choose n i j=>.choose n ((pl.getD i none).getD 0) ((pl.getD j none).getD 0)
theorem BG{pl:List (Option Nat)}{e:Ed}:(mG pl e).tg=e.tg.map fun i=>(pl.getD i none).getD 0:=by cases e<;>rfl
theorem vY{pl:List (Option Nat)}{e:Ed}:dm (mG pl e)=dm e:=by cases e<;>rfl
def few(F:List Blk)(pl:List (Option Nat))(kp:List Nat):List Blk:=kp.map fun i=>let b:=F.getD i ⟨[],.stop⟩;⟨b.ds,mG pl b.ed⟩
structure Few(F:List Blk)(R:Nat->Prop)(cs:List Nat)(pl:List (Option Nat))(N:List Blk):Prop where
 len:pl.length=F.length
 out:∀i,i<F.length->(pl[i]?=some none↔¬R i)
 to:∀(i:Nat)(b:Blk),R i->F[i]?=some b->∃k c,pl[i]?=some (some k)/\N[k]?=some c/\c.ds=b.ds/\dm c.ed=dm b.ed/\c.ed.tg=b.ed.tg.map fun j=>(pl.getD j none).getD 0
 eqv:∀i j,i<F.length->j<F.length->R i->R j->(pl[i]?=pl[j]?↔cs[i]?=cs[j]?)
 onto:∀k,k<N.length->∃i,i<F.length/\R i/\pl[i]?=some (some k)
 fst:∀(i k:Nat),pl[i]?=some (some k)->∀x,x<k->∃j,j<i/\R j/\pl[j]?=some (some x)
theorem mV{cs:List Nat}{ws:List Bool}{i:Nat}:∀m,i<=m->ksF (rcl cs ws i) <+: ksF (rcl cs ws m)
 |0,h=>by
  obtain rfl:i=0:=by omega
  exact vn _
 |m+1,h=>by
  by_cases e:i=m+1
  ·rw [e];exact vn _
  ·refine (mV m Jlk).trans ?_;rw [cE]
   split
   ·rw [cg]
    split
    ·exact vn _
    ·exact List.prefix_append _ _
   ·exact vn _
theorem yV{α:Type}{a b:List α}{i:Nat}{x:α}(h:a <+: b)(e:a[i]?=some x):b[i]?=some x:=by obtain ⟨c,rfl⟩:=h;rw [gH (zq7.mp e).1];exact e
theorem Bv{F:List Blk}{R:Nat->Prop}{cs:List Nat}{ws:List Bool}{kp:List Nat}(hP:Prt F cs)(hs:nxt F cs=cs)(hL:Led F)(hw:ws.length=F.length)(hR:∀i,ws[i]?=some true↔R i)(hcl:∀(i:Nat)(b:Blk),R i->F[i]?=some b->∀j∈b.ed.tg,R j)(hk:Kpt cs ws F.length kp):
  Few F R cs (pls cs ws F.length) (few F (pls cs ws F.length) kp):=by
 have gw:∀i,i<F.length->(ws.getD i false=true↔R i):=fun i hi=>by rw [cn,<- hR i,zq5 Jlk];simp
 have pat:∀i,i<F.length->(pls cs ws F.length)[i]?=some (plc cs ws (ksF (rcl cs ws F.length)) i):=fun i hi=>by unfold pls;rw [bq,xh hi];rfl
 have mem:∀i,i<F.length->R i->cs.getD i 0∈ksF (rcl cs ws F.length):=fun i hi r=>mem_ksF.mpr (mem_rcl.mpr (zAC i hi ((gw i hi).mpr r) rfl));have pin:∀i,i<F.length->R i->plc cs ws (ksF (rcl cs ws F.length)) i=some ((ksF (rcl cs ws F.length)).idxOf (cs.getD i 0)):=fun i hi r=>by unfold plc;rw [zq2 ((gw i hi).mpr r)]
 have cat:∀i,i<F.length->cs[i]?=some (cs.getD i 0):=fun i hi=>by rw [cn,zq5 (by rw [hP.len];exact hi)];rfl
 have eqv:∀i j,i<F.length->j<F.length->R i->R j->((pls cs ws F.length)[i]?=(pls cs ws F.length)[j]?↔cs[i]?=cs[j]?):=fun i j hi hj ri rj=>by
  rw [pat i hi,pat j hj,pin i hi ri,pin j hj rj,cat i hi,cat j hj]
  constructor
  ·intro e;rw [tX (mem i hi ri) (Option.some.inj (Option.some.inj e))]
  ·intro e;rw [Option.some.inj e]
 refine ⟨by unfold pls;rw [zq4,cX],fun i hi=>?_,fun i b ri hb=>?_,eqv,fun k hkl=>?_,fun i k hik x hx=>?_⟩
 ·rw [pat i hi]
  constructor
  ·intro e r;rw [pin i hi r] at e
   cases e
  ·intro nr;unfold plc;rw [zq1 (fun z=>nr ((gw i hi).mp z))]
 ·have hi:=(zq7.mp hb).1;have hm:=mem i hi ri;have hlt:=qz hm;obtain ⟨j,hj⟩:∃j,kp[(ksF (rcl cs ws F.length)).idxOf (cs.getD i 0)]?=some j:=⟨_,zq5 (by rw [hk.len];exact hlt)⟩
  obtain ⟨hjF,hjw,hjc⟩:=hk.at' _ j hj;have rj:=(gw j hjF).mp hjw;have ecc:cs.getD j 0=cs.getD i 0:=by rw [zq5 hlt,xg hlt] at hjc;exact (Option.some.inj hjc).symm
  have ecs:cs[j]?=cs[i]?:=by rw [cat j hjF,cat i hi,ecc]
  have hFj:F[j]?=some F[j]:=zq5 hjF;obtain ⟨m1,m2⟩:=mk0_iff.mp (hP.look j i _ _ hFj hb ecs);have st:=zX hP hs hFj hb ecs;refine zAP _ ⟨F[j].ds,mG (pls cs ws F.length) F[j].ed⟩ (by rw [pat i hi,pin i hi ri]) ?_ m1 (by rw [vY];exact m2) ?_
  ·unfold few;rw [bq,hj,vo,cn,hFj];rfl
  ·rw [BG];have hl:=mH m2;apply nz;intro x
   by_cases hx:x<F[j].ed.tg.length
   ·have e1:F[j].ed.tg[x]?=some F[j].ed.tg[x]:=zq5 hx;have e2:b.ed.tg[x]?=some (b.ed.tg[x]' Jlk):=zq5 Jlk;rw [bq,bq,e1,e2];have l1:=hL _ (bg hFj) _ (bg e1);have l2:=hL _ (bg hb) _ (bg e2);have r1:=hcl j _ rj hFj _ (bg e1);have r2:=hcl i _ ri hb _ (bg e2);have st2:=congrArg (fun l:List Nat=>l[x]?) st;have z:cs[F[j].ed.tg[x]]?=cs[b.ed.tg[x]' Jlk]?:=by have st3:(F[j].ed.tg.map fun i=>cs.getD i 0)[x]?=(b.ed.tg.map fun i=>cs.getD i 0)[x]?:=st2;rw [bq,bq,e1,e2] at st3;rw [cat _ l1,cat _ l2];exact st3
    have z2:=(eqv _ _ l1 l2 r1 r2).mpr z;show some (((pls cs ws F.length).getD F[j].ed.tg[x] none).getD 0)=some (((pls cs ws F.length).getD (b.ed.tg[x]' Jlk) none).getD 0);rw [cn,cn,z2]
   ·rw [gf (by rw [zq4];omega),gf (by rw [zq4];omega)]
 ·unfold few at hkl;rw [zq4] at hkl;obtain ⟨i,hi⟩:∃i,kp[k]?=some i:=⟨_,zq5 hkl⟩
  obtain ⟨h1,h2,h3⟩:=hk.at' k i hi;refine zAC i h1 ((gw i h1).mp h2) ?_;rw [pat i h1,pin i h1 ((gw i h1).mp h2)];have hlt:k<(ksF (rcl cs ws F.length)).length:=(zq7.mp h3).1;have e3:(ksF (rcl cs ws F.length))[k]=cs.getD i 0:=(zq7.mp h3).2;have hm:=mem i h1 ((gw i h1).mp h2);have hj:=qz hm;have e4:(ksF (rcl cs ws F.length))[(ksF (rcl cs ws F.length)).idxOf (cs.getD i 0)]?=some (cs.getD i 0):=by rw [zq5 hj,xg hj]
  rw [(AE hj (fP (rcl cs ws F.length)).2.1).mp (e4.trans h3.symm)]
 ·have hi:i<F.length:=by have:=(zq7.mp hik).1;unfold pls at this;rw [zq4,cX] at this;exact this
  have hw:ws.getD i false=true:=by
   rw [pat i hi] at hik;unfold plc at hik
   split at hik
   ·assumption
   ·cases hik
  have ri:=(gw i hi).mp hw;rw [pat i hi,pin i hi ri] at hik;have ek:(ksF (rcl cs ws F.length)).idxOf (cs.getD i 0)=k:=Option.some.inj (Option.some.inj hik);have p1:=mV (cs:=cs) (ws:=ws) (i:=i) (i+1) Jlk;have p2:=mV (cs:=cs) (ws:=ws) (i:=i+1) F.length Jlk;have nd:=(fP (rcl cs ws F.length)).2.1;have hm:=mem i hi ri;have hkl:=qz hm;have ei:(ksF (rcl cs ws F.length))[k]?=some (cs.getD i 0):=by rw [<- ek,zq5 hkl,xg hkl]
  have hle:k<=(ksF (rcl cs ws i)).length:=by
   have hc:cs.getD i 0∈ksF (rcl cs ws (i+1)):=mem_ksF.mpr (mem_rcl.mpr (zAC i Jlk hw rfl));obtain ⟨y,hy⟩:=zq55.mp hc;have hy2:=yV p2 hy;have eyk:k=y:=(AE (zq7.mp ei).1 nd).mp (ei.trans hy2.symm);have hyl:=(zq7.mp hy).1;rw [cE,zq2 hw,cg] at hyl
   split at hyl
   ·omega
   ·rw [zq8,bV] at hyl;omega
  have hxi:x<(ksF (rcl cs ws i)).length:=by omega
  have ex:(ksF (rcl cs ws i))[x]?=some (ksF (rcl cs ws i))[x]:=zq5 hxi;obtain ⟨j,hj,hjw,hjc⟩:=mem_rcl.mp (mem_ksF.mp (dH hxi));have hjF:j<F.length:=by omega
  have rj:=(gw j hjF).mp hjw;refine zAC j hj rj ?_;rw [pat j hjF,pin j hjF rj];have e5:=yV (p1.trans p2) ex;have hmj:=mem j hjF rj;have hjl:=qz hmj;have e6:(ksF (rcl cs ws F.length))[(ksF (rcl cs ws F.length)).idxOf (cs.getD j 0)]?=some (cs.getD j 0):=by rw [zq5 hjl,xg hjl]
  rw [hjc] at e6 ⊢;rw [(AE (zq7.mp e6).1 nd).mp (e6.trans e5.symm)]
end GZ
namespace FP
open PySem L2 FB FS FA PyProof.Rows
def cy(names:List Str)(w:Int)(most:Int)(k:Nat)(c:Int)(st:List Ent×Int):List Ent×Int:=
 if dQ c k % 12<2/\1<st.1.length then
  (match st.1 with
   |e::es=>if dQ c k % 12=0/\e.kind=.iff then ⟨.els,[],e.name,e.rows⟩::es else eV st.1
   | []=>[],st.2)
 else if st.2<most then
  (if dQ c k % 12<5/\st.1.length<8/\¬names=[] then ⟨kd3 (dQ c k % 12-2),[],j7 (dQ c k / 12) names,[]⟩::st.1 else lG (.deed (eX (dQ c k / 12) names w)) st.1,st.2+1)
 else st
def bE(names:List Str)(w most:Int):List Int->Nat->List Ent×Int->List Ent×Int
 | [],_,st=>st
 |c::cs,k,st=>bE names w most cs (k+1) (cy names w most k c st)
theorem kc{names:List Str}{w most:Int}{c:Int}:∀{cs:List Int} {k:Nat} {st:List Ent×Int},bE names w most (cs++[c]) k st=cy names w most (k+cs.length) c (bE names w most cs k st)
 | [],k,st=>rfl
 |d::cs,k,st=>by show bE names w most (cs++[c]) (k+1) _=_;rw [kc,d5,show k+1+cs.length=k+(cs.length+1) by omega];rfl
def dU(cs:List Int)(names:List Str)(w most:Int):List Stm:=bX (bE names w most cs 0 start0).1
theorem pV{ns:List Str}{w most:Int}{k:Nat}{c:Int}{st:List Ent×Int}(g:EsG ns w st.1)(l1:1<=st.1.length)(l9:st.1.length<=9)(hc:(gO st.1:Int)<=st.2)(hm:st.2<=most):
  EsG ns w (cy ns w most k c st).1/\1<=(cy ns w most k c st).1.length/\(cy ns w most k c st).1.length<=9/\(gO (cy ns w most k c st).1:Int)<=(cy ns w most k c st).2/\(cy ns w most k c st).2<=most:=by
 obtain ⟨es,many⟩:=st;dsimp only at g l1 l9 hc hm;unfold cy;dsimp only
 split
 ·next h=>
  match es,h.2,g,l9,hc with
  |e::e2::es',_,g,l9,hc=>
   dsimp only
   split
   ·next hk=>
    refine zAJ ⟨⟨?_,g.1.d1,trivial,g.1.g1,g.1.nm⟩,g.2⟩ Jll (by simpa using l9) ?_ hm
    ·have:=g.1.d1;simp only [bA];omega
    ·simp only [gO,kK,aS,List.length_cons] at hc ⊢;omega
   ·obtain ⟨h1,h2⟩:=gN g;refine zAJ h1 (by rw [bJ];omega) (by rw [bJ];simp at l9;omega) Jlk hm
 ·split
  ·next h2=>
   dsimp only
   split
   ·next h3=>refine zAJ ⟨⟨by simp only [bA];omega,by simp only [bA];omega,trivial,trivial,fun _=>hX h3.2.2⟩,g⟩ Jll (by simp;omega) ?_ Jlk;simp only [gO,kK,aS,List.length_cons] at hc ⊢;omega
   ·match es,l1,g,l9,hc with
    |e::es',_,g,l9,hc=>refine zAJ ⟨nJ g.1 ou (by simp only [Stm.deep];simp at l9;omega),g.2⟩ (by simp [lG]) (by simpa [lG] using l9) ?_ Jlk;simp only [gO,kK,lG,Ent.add,dy,aS,Stm.many,List.length_cons] at hc ⊢;omega
  ·exact zAJ g l1 l9 hc hm
theorem ka{ns:List Str}{w most:Int}:∀{cs:List Int} {k:Nat} {st:List Ent×Int},EsG ns w st.1->1<=st.1.length->st.1.length<=9->(gO st.1:Int)<=st.2->st.2<=most->
  EsG ns w (bE ns w most cs k st).1/\(gO (bE ns w most cs k st).1:Int)<=most
 | [],_,_,g,_,_,hc,hm=>⟨g,by show (gO _:Int)<=_;exact Int.le_trans hc hm⟩
 |c::cs,k,st,g,l1,l9,hc,hm=>by obtain ⟨a1,a2,a3,a4,a5⟩:=pV (k:=k) (c:=c) g l1 l9 hc hm;show EsG ns w (bE ns w most cs (k+1) (cy ns w most k c st)).1/\(gO (bE ns w most cs (k+1) (cy ns w most k c st)).1:Int)<=most;exact ka a1 a2 a3 a4 a5
theorem iU{cs:List Int}{ns:List Str}{w most:Int}(h:0<=most):cR ns w (dU cs ns w most)/\bA (dU cs ns w most)<=8/\(aS (dU cs ns w most):Int)<=most:=by
 have z:EsG ns w start0.1:=⟨⟨by simp [start0,bA],by simp [start0,bA],trivial,trivial,fun z=>absurd rfl z⟩,trivial⟩
 obtain ⟨g,hc⟩:=ka (cs:=cs) (k:=0) (most:=most) z (by simp [start0]) (by simp [start0]) (by simp [start0,gO,kK,aS]) (by simpa [start0] using h);obtain ⟨h1,h2,h3⟩:=gh g;exact zAB h1 h2 (by unfold dU;omega)
end FP
namespace FZ
open PySem FB FS
def wt(b:Blk):Nat:=match b.ds,b.ed with
 | [],_=>1
 |d::ds,.choose _ _ _=>(d::ds).length+1
 |ds,_=>ds.length
def pw(b:Blk):Nat:=match b.ds,b.ed with
 | [],.go _=>0
 |_,_=>wt b
def sW(B:List Blk):Nat:=(B.map wt).sum
theorem jg{B:List Blk}{b:Blk}:sW (B++[b])=sW B+wt b:=by unfold sW;rw [cq,AF];simp
theorem eP(b:Blk)(B:List Blk):sW (aB b B).2=sW B+pw b:=by
 obtain ⟨ds,ed⟩:=b;unfold aB pw
 cases ds with
 |nil=>
  cases ed with
  |stop=>exact jg
  |go i=>rfl
  |choose n i j=>exact jg
 |cons d r=>exact jg
theorem zF{B:List Blk}:∀{i:Nat} {b c:Blk},B[i]?=some c->sW (B.set i b)+wt c=sW B+wt b:=by
 induction B with
 |nil=>intro i b c h;simp at h
 |cons x B ih=>
  intro i b c h
  cases i with
  |zero=>
   simp at h;subst h;unfold sW;simp only [List.set_cons_zero,List.map_cons,List.sum_cons];omega
  |succ i=>have z:=ih (i:=i) (b:=b) (c:=c) (by simpa using h);unfold sW at z ⊢;simp only [List.set_cons_succ,List.map_cons,List.sum_cons];omega
theorem J9(b:Blk):wt b<=pw b+1:=by
 obtain ⟨ds,ed⟩:=b;unfold pw
 cases ds<;>cases ed<;>simp [wt]
theorem Cc(d:Deed)(ds:List Deed)(ed:Ed):pw ⟨d::ds,ed⟩<=pw ⟨ds,ed⟩+1:=by
 unfold pw
 cases ds<;>cases ed<;>simp [wt]
mutual
theorem Al:∀(s:Stm)(b:Blk)(B:List Blk),sW (bU s b B).2+pw (bU s b B).1<=sW B+pw b+s.many
 | .deed d,b,B=>by
  rw [bU,Stm.many]
  split
  ·have:=eP b B;show sW (aB b B).2+pw ⟨[d],.go (aB b B).1⟩<=_;have h1:pw ⟨[d],.go (aB b B).1⟩=1:=by simp [pw,wt]
   omega
  ·have h0:pw ⟨d::b.ds,b.ed⟩<=pw b+1:=Cc d b.ds b.ed;show sW B+pw ⟨d::b.ds,b.ed⟩<=_;omega
 | .ifs n x y,b,B=>by
  rw [bU,Stm.many];have h1:=eP b B;have h2:=fF x ⟨[],.go (aB b B).1⟩ (aB b B).2;have h3:=eP (aM x ⟨[],.go (aB b B).1⟩ (aB b B).2).1 (aM x ⟨[],.go (aB b B).1⟩ (aB b B).2).2;have h4:=fF y ⟨[],.go (aB b B).1⟩ (aB (aM x ⟨[],.go (aB b B).1⟩ (aB b B).2).1 (aM x ⟨[],.go (aB b B).1⟩ (aB b B).2).2).2;have h5:=eP (aM y ⟨[],.go (aB b B).1⟩ (aB (aM x ⟨[],.go (aB b B).1⟩ (aB b B).2).1 (aM x ⟨[],.go (aB b B).1⟩ (aB b B).2).2).2).1 (aM y ⟨[],.go (aB b B).1⟩ (aB (aM x ⟨[],.go (aB b B).1⟩ (aB b B).2).1 (aM x ⟨[],.go (aB b B).1⟩ (aB b B).2).2).2).2;have hg:pw ⟨[],.go (aB b B).1⟩=0:=rfl;have hc:∀i j,pw ⟨[],.choose n i j⟩=1:=fun i j=>by simp [pw,wt]
  dsimp only;rw [hc];omega
 | .whl n a,b,B=>by
  rw [bU,Stm.many];have h1:=eP b B;have h2:=fF a ⟨[],.go (aB b B).2.length⟩ ((aB b B).2++[⟨[],.stop⟩]);have h3:=eP (aM a ⟨[],.go (aB b B).2.length⟩ ((aB b B).2++[⟨[],.stop⟩])).1 (aM a ⟨[],.go (aB b B).2.length⟩ ((aB b B).2++[⟨[],.stop⟩])).2;have h4:sW ((aB b B).2++[⟨[],.stop⟩])=sW (aB b B).2+1:=by rw [jg];rfl
  have hg:∀i,pw ⟨[],.go i⟩=0:=fun i=>rfl;have e1:=(bG a ⟨[],.go (aB b B).2.length⟩ ((aB b B).2++[⟨[],.stop⟩])).2 (aB b B).2.length (by rw [zq8];simp);have l1:=(bG a ⟨[],.go (aB b B).2.length⟩ ((aB b B).2++[⟨[],.stop⟩])).1;rw [zq8,bV] at l1;have e2:=(d4 (aM a ⟨[],.go (aB b B).2.length⟩ ((aB b B).2++[⟨[],.stop⟩])).1 (aM a ⟨[],.go (aB b B).2.length⟩ ((aB b B).2++[⟨[],.stop⟩])).2).2 (aB b B).2.length Jlk;have e3:((aB b B).2++[(⟨[],.stop⟩:Blk)])[(aB b B).2.length]?=some ⟨[],.stop⟩:=by rw [gG (zq6 _),nA];rfl
  have h5:=zF (b:=⟨[],.choose n (aB (aM a ⟨[],.go (aB b B).2.length⟩ ((aB b B).2++[⟨[],.stop⟩])).1 (aM a ⟨[],.go (aB b B).2.length⟩ ((aB b B).2++[⟨[],.stop⟩])).2).1 (aB b B).1⟩) (e2.trans (e1.trans e3));have w1:wt ⟨[],.stop⟩=1:=rfl;have w2:∀i j,wt ⟨[],.choose n i j⟩=1:=fun _ _=>rfl;rw [w1,w2] at h5;rw [hg] at h2;dsimp only;rw [hg];omega
theorem fF:∀(l:List Stm)(b:Blk)(B:List Blk),sW (aM l b B).2+pw (aM l b B).1<=sW B+pw b+aS l
 | [],b,B=>by rw [aM,aS];exact zq6 _
 |s::r,b,B=>by have h1:=fF r b B;have h2:=Al s (aM r b B).1 (aM r b B).2;rw [aM,aS];omega
end
theorem vx(ss:List Stm):sW (aY ss)<=aS ss+2:=by have h1:=fF ss ⟨[],.stop⟩ [⟨[],.stop⟩];have e1:=(bG ss ⟨[],.stop⟩ [⟨[],.stop⟩]).2 0 Jll;have h2:=zF (b:=(aM ss ⟨[],.stop⟩ [⟨[],.stop⟩]).1) (e1.trans (show ([⟨[],.stop⟩]:List Blk)[0]?=some ⟨[],.stop⟩ from rfl));have h3:=J9 (aM ss ⟨[],.stop⟩ [⟨[],.stop⟩]).1;have w1:wt ⟨[],.stop⟩=1:=rfl;have w2:sW [⟨[],.stop⟩]=1:=rfl;have w3:pw ⟨[],.stop⟩=1:=rfl;unfold aY;omega
end FZ
section
open PySem PySem.Spec PyProof.Rows L2
namespace HC
variable {led:Bool} {n:Nat}
def mkT(n:Nat):Nat:=if n<5 then 7 else if n<19 then 31 else 127
def mvT(n:Nat):Nat:=if n<5 then 0 else if n<19 then 1 else 2
def tbl(n:Nat)(led:Bool):SetTable:={mask:=mkT n,place:=Array.range n,dummies:=#[],finger:=0,led:=led,moves:=mvT n,plain:=true}
def tbA(n:Nat)(led:Bool):SetTable:={tbl n led with place:=Array.range (n+1)}
def hsh(n:Nat):Array Int:=(Array.range n).map Int.ofNat
theorem tZ{α:Type}{xs:Array α}{x:α}:SetTable.insertAt xs xs.size x=xs.push x:=by unfold SetTable.insertAt;simp
theorem ju{n i:Nat}:∀fuel lo hi,hi-lo<=fuel->lo<=i->i<=hi->hi<=n->SetTable.below.go (Array.range n) i fuel lo hi=i
 |0,lo,hi,h1,h2,h3,h4=>by unfold SetTable.below.go;omega
 |fuel+1,lo,hi,h1,h2,h3,h4=>by
  unfold SetTable.below.go
  by_cases hlt:lo<hi
  ·rw [zq2 hlt];have hm:(Array.range n).getD ((lo+hi) / 2) i=(lo+hi) / 2:=by rw [Array.getD_eq_getD_getElem?,Array.getElem?_range,zq2 Jlk];rfl
   dsimp only;rw [hm]
   by_cases hc:(lo+hi) / 2<i
   ·rw [zq2 hc];exact ju fuel _ _ Jlk Jlk h3 h4
   ·rw [zq1 hc];exact ju fuel _ _ Jlk h2 Jlk Jlk
  ·rw [zq1 hlt];omega
theorem tb7{i:Nat}(h:i<=n):SetTable.below (Array.range n) i=i:=by unfold SetTable.below;rw [AG];exact ju _ _ _ (zq6 _) (bT _) h (zq6 _)
theorem tb1:∀n,n<63->∀led:Bool,(tbl n led).freeSlot (n:Int)=some (n,false):=by decide +kernel
theorem tb2(n:Nat)(led:Bool):(tbl n led).put n=(tbA n led,n):=by
 have hb:SetTable.below (tbl n led).place n=n:=tb7 (zq6 _);have hi:SetTable.insertAt (tbl n led).place n n=Array.range (n+1):=by have z:=tZ (xs:=Array.range n) (x:=n);rw [AG] at z;rw [Array.range_succ];exact z
 unfold SetTable.put;dsimp only;rw [hb,hi];rfl
theorem tb3:∀n,n<64->∀led:Bool,(tbl n led).fits n=true:=by decide +kernel
theorem tb4:∀n,n<63->∀led:Bool,(tbA n led).fits (n+1)=true:=by decide +kernel
theorem oE:(tbA n led).tooFull=decide ((n+1) * 5 ≥ mkT n * 3):=by
 have e:(tbA n led).fill=n+1:=by show (Array.range (n+1)).size+(#[]:Array Nat).size=n+1;rw [AG];rfl
 unfold SetTable.tooFull;rw [e];rfl
theorem Jz:∀n,n<63->decide ((n+1) * 5 ≥ mkT n * 3)=true->n=4\/n=18:=by decide +kernel
theorem HM:∀n,n<63->decide ((n+1) * 5 ≥ mkT n * 3)=false->mkT n=mkT (n+1)/\mvT n=mvT (n+1):=by decide +kernel
theorem tb5(hn:n<63)(h:(tbA n led).tooFull=true):(tbA n led).relaid (hsh (n+1)) (SetTable.grown (n+1))=some (tbl (n+1) led,Array.range (n+1)):=by
 rw [oE] at h;rcases Jz n hn h with rfl | rfl
 ·cases led<;>decide +kernel
 ·cases led<;>decide +kernel
theorem tb6(hn:n<63)(h:(tbA n led).tooFull=false):tbA n led=tbl (n+1) led:=by rw [oE] at h;obtain ⟨h1,h2⟩:=HM n hn h;unfold tbA tbl;rw [h1,h2]
theorem tb8:∀n,n<64->coversAll (Array.range n) n=true:=by decide +kernel
theorem tb9:∀n:Nat,n<64->hashInt (n:Int)=(n:Int):=by decide +kernel
theorem tb0(led:Bool):SetTable.fresh 0 0 led=tbl 0 led:=by cases led<;>decide +kernel
def SetN(h:Heap)(a:Addr)(n:Nat)(led:Bool):Prop:=∃o es ep,h.get? a=some o/\o.ExactSet/\o.data=.set es ep (tbl n led)/\es.size=n/\∀(i:Nat)e,es[i]?=some e->e.1=(i:Int)/\∃t,e.2=.int i t
theorem SetN.mv{h h':Heap}{a:Addr}(z:SetN h a n led)(k:∀o,h.get? a=some o->h'.get? a=some o):SetN h' a n led:=
 let ⟨o,es,ep,e,r⟩:=z;(zAK o es ep (k o e) r)
section
variable {prog:Program} {w:World} {A:Around} {E:Value->Shared->Prop} {s:Shared}
theorem lI{i k:Nat}{t:Tok}:Value.isInt (k:Int) (.int (i:Int) t)=decide (k=i):=by show ((i:Int)==(k:Int))=_;rw [eh,eo,zq57];exact ⟨fun h=>(Int.ofNat.inj h).symm,fun h=>by rw [h]⟩
theorem ER{es:Array (Int×Value)}{x:Value}(hsz:es.size=n)(hn:n<63):layNew (tbl n led) es (n:Int) x=(es.push ((n:Int),x),tbA n led,false,false):=by
 unfold layNew;rw [tb1 n hn led];dsimp only;rw [tb2];dsimp only;have e:SetTable.insertAt es n ((n:Int),x)=es.push ((n:Int),x):=by rw [<- hsz];exact tZ
 have f:(tbA n led).fits (es.push ((n:Int),x)).size=true:=by rw [AH,hsz];exact tb4 n hn led
 rw [e,f];unfold SetTable.orStandIn;rw [zq2 f];rfl
theorem zy{es:Array (Int×Value)}(hsz:es.size=n+1)(hn:n<63)(hel:∀(i:Nat)e,es[i]?=some e->e.1=(i:Int))(hf:(tbA n led).tooFull=true):relayAll (tbA n led) es (SetTable.grown es.size)=(es,tbl (n+1) led,false):=by
 have hm:es.map (·.1)=hsh (n+1):=by
  apply Array.ext
  ·unfold hsh;simp [hsz]
  ·intro i h1 h2;rw [Array.size_map] at h1;have:=hel i es[i] (sN h1);unfold hsh at h2 ⊢;rw [Array.getElem_map,Array.getElem_map,this,Array.getElem_range];rfl
 have hfm:(Array.range (n+1)).filterMap (es[·]?)=es:=by
  apply Array.ext';rw [Array.toList_filterMap,Array.toList_range];apply nz;intro i;have key:∀m,m<=es.size->((List.range m).filterMap (es[·]?))=es.toList.take m:=fun m=>by
   induction m with
   |zero=>intro _;simp
   |succ m ih=>intro hm;rw [xc,List.filterMap_append,ih Jlk,vb,sN (show m<es.size by omega),List.filterMap_nil,df (by rw [ja];omega)];simp
  rw [<- hsz,key _ (zq6 _),<- ja,ef]
 unfold relayAll;rw [hm,hsz,tb5 hn hf];dsimp only;rw [hfm,hsz,tb8 (n+1) Jlk,tb3 (n+1) Jlk led];rfl
theorem zI{a:Addr}{k:Nat}{t:Tok}{Q:Bool->Shared->Prop}(hS:SetN s.heap a n led)(hk:k<=n)(hn:n<63)
 (h:∀b h',Heap.SameBut a s.heap h'->SetN h' a (if k=n then n+1 else n) led->Q b {s with heap:=h'}):wpAny (model prog w) A (setAddHashed a (.int k t) ((intKind prog w).hash (k:Int))) Q E s:=by
 obtain ⟨o,es,ep,ho,hex,hd,hsz,hel⟩:=hS;have hf:(tbl n led).fits es.size=true:=by rw [hsz];exact tb3 n Jlk led
 have hE:ElemsOf (intKind prog w) es.toList:=fun e he=>by obtain ⟨i,hi⟩:=zq55.mp he;rw [qF] at hi;obtain ⟨h1,t,h2⟩:=hel i e hi;have:=(zq91.mp hi).1;refine ⟨zn (i:Int) (by rw [h2];exact intKind_is _ _ _ _) ?_,by rw [h2];rfl⟩;rw [h1];exact (tb9 i Jlk).symm
 have hb:es.size<scanBound:=by unfold scanBound;omega
 unfold setAddHashed setAddHashedIn;refine kD (zq0 (wpAny_setState_of ho hd hf ?_));dsimp only;rw [byScan_of (knd:=intKind prog w) (x:=.int k t) rfl hb hE];simp only [↓reduceIte];unfold setAddByScan;refine zq0 ?_;refine zq0 (wpAny_rule ?_);refine zq0 (wpAny_setScan_of (knd:=intKind prog w) (k:=(k:Int)) (intKind_is _ _ _ _) ho hd hf hE ?_)
 cases hr:List.findIdx? (fun e=>(intKind prog w).is (k:Int) e.2) es.toList with
 |some j=>
  dsimp only;obtain ⟨hj,hpj,_⟩:=List.findIdx?_eq_some_iff_getElem.mp hr;have hne:¬k=n:=fun e=>by
   have hj':j<es.size:=by rw [ja] at hj;exact hj
   obtain ⟨_,t2,h2⟩:=hel j es[j] (sN hj');have h3:Value.isInt (k:Int) es[j].2=true:=by rw [<- Array.getElem_toList];exact hpj
   rw [h2,lI,eo] at h3;omega
  have e0:s={s with heap:=s.heap}:=by cases s;rfl
  have z:=h false s.heap (Heap.SameBut.refl a s.heap) (by rw [zq1 hne];exact zAI o es ep ho hex hd hsz hel);rw [e0];exact zq3 (zq3 z)
 |none=>
  dsimp only;have hkn:k=n:=by
   refine kG fun hne=>?_;have hlt:k<es.size:=by omega
   obtain ⟨_,t2,h2⟩:=hel k es[k] (sN hlt);have z:=List.findIdx?_eq_none_iff.mp hr es[k] (by rw [<- Array.getElem_toList];exact dH (by rw [ja];exact hlt));have z2:Value.isInt (k:Int) es[k].2=false:=z;rw [h2,lI,bC rfl] at z2
   cases z2
  subst hkn;have hh:(intKind prog w).hash (k:Int)=(k:Int):=tb9 k Jlk;rw [hh,ER hsz hn];dsimp only;refine zq0 (zq3 ?_);rw [zq2 (show (tbA k led).plain=true from rfl)];refine zq0 ?_;rw [hashByValue_scannable 8 (x:=.int k t) rfl];refine zq3 ?_;rw [zq2 (show plainKind (Value.int k t)=true from rfl)];have hb1:(es.push ((k:Int),Value.int k t)).size<scanBound:=by rw [AH];unfold scanBound;omega
  refine zq0 (wpAny_storeSet_of ho hd ?_ (fits_of_scanBound hb1));have hg1:(s.heap.update a (Obj.putSet (es.push ((k:Int),Value.int k t)) (tbA k led))).get? a=some {o with data:=.set (es.push ((k:Int),Value.int k t)) (ep+1) (tbA k led)}:=by have z:=sI (Obj.putSet (es.push ((k:Int),Value.int k t)) (tbA k led)) ho (by rw [putSet_of _ _ hd];rfl);rw [putSet_of _ _ hd] at z;exact z
  have sb1:=Heap.SameBut.update s.heap a (Obj.putSet (es.push ((k:Int),Value.int k t)) (tbA k led));have hel2:∀(i:Nat)e,(es.push ((k:Int),Value.int k t))[i]?=some e->e.1=(i:Int)/\∃t,e.2=.int i t:=fun i e he=>by
   rw [Array.getElem?_push] at he
   split at he
   ·next hi=>
    cases he
    rw [hi,hsz];exact ⟨rfl,_,rfl⟩
   ·exact hel i e he
  have hsz2:(es.push ((k:Int),Value.int k t)).size=k+1:=by rw [AH,hsz]
  rw [zq2 rfl] at h;generalize es.push ((k:Int),Value.int k t)=es2 at hb1 hg1 sb1 hel2 hsz2 ⊢
  cases hF:(tbA k led).tooFull with
  |true=>
   rw [zy hsz2 hn (fun i e he=>(hel2 i e he).1) hF,zq2 Jlm];dsimp only;refine zq0 (zq3 ?_);refine zq0 (wpAny_storeSet_of hg1 rfl ?_ (fits_of_scanBound hb1));have hg2:=sI (Obj.putSet es2 (tbl (k+1) led)) hg1 (by rw [putSet_of _ _ rfl];rfl);rw [putSet_of _ _ rfl] at hg2;exact zq3 (zq3 (h true _ (sb1.trans (Heap.SameBut.update _ a _)) (zAI _ es2 _ hg2 hex rfl hsz2 hel2)))
  |false=>rw [zq1 Jkm];rw [tb6 hn hF] at hg1 sb1 ⊢;exact zq3 (zq3 (h true _ sb1 (zAI _ es2 _ hg1 hex rfl hsz2 hel2)))
end
end HC
namespace HC
variable {a it:Addr} {ep i n:Nat} {led:Bool}
def byT(w:World):Bool:=w.params.followText "set-order"
theorem jE{α:Type}:∀{l:List α} {i:Nat} (hi:i<l.length),([l[i]]++l.eraseIdx i).Perm l
 |x::l,0,_=>.refl _
 |x::l,i+1,h=>by
  have h2:i<l.length:=by simpa using h
  exact (List.Perm.swap x l[i] _).trans ((jE (l:=l) h2).cons x)
theorem uj{α:Type}{next:Nat->Nat}:∀(fuel k:Nat)(left:List α)(out:Array α),left.length=fuel->(pickOrder.go next fuel k left out).toList.Perm (out.toList++left)
 |0,k,left,out,h=>by
  rw [zq66.mp h];unfold pickOrder.go;simp
 |fuel+1,k,left,out,h=>by have hi:next k % left.length<left.length:=Nat.mod_lt _ Jlk;unfold pickOrder.go;rw [zq5 hi];dsimp only;refine (uj fuel (k+1) _ _ (by rw [List.length_eraseIdx,zq2 hi];omega)).trans ?_;rw [Array.toList_push,kR];refine List.Perm.append_left _ ?_;exact jE hi
theorem wx{α:Type}{next:Nat->Nat}{xs:Array α}:(pickOrder next xs).toList.Perm xs.toList:=by have z:=uj (next:=next) xs.size 0 xs.toList #[] Jll;simpa [pickOrder] using z
def kP(w:World)(a:Addr)(ep:Nat)(es:Array (Int×Value)):Array (Int×Value):=if byT w=true then pickOrder (w.params.setOrder a ep) es else es
theorem ord_perm{w:World}{es:Array (Int×Value)}:(kP w a ep es).toList.Perm es.toList:=by
 unfold kP
 split
 ·exact wx
 ·exact .refl _
theorem hV{w:World}{es:Array (Int×Value)}:(kP w a ep es).size=es.size:=by have:=(ord_perm (w:=w) (a:=a) (ep:=ep) (es:=es)).length_eq;simpa using this
def SetE(h:Heap)(a:Addr)(n:Nat)(led:Bool)(es:Array (Int×Value))(ep:Nat):Prop:=∃o,h.get? a=some o/\o.ExactSet/\o.data=.set es ep (tbl n led)/\es.size=n/\n<64/\∀(i:Nat)e,es[i]?=some e->e.1=(i:Int)/\∃t,e.2=.int i t
theorem SetE.mv{h h':Heap}{es:Array (Int×Value)}(z:SetE h a n led es ep)(k:∀o,h.get? a=some o->h'.get? a=some o):SetE h' a n led es ep:=
 let ⟨o,e,r⟩:=z;(zn o (k o e) r)
theorem SetE.lt{h:Heap}{es:Array (Int×Value)}(z:SetE h a n led es ep):a<h.objs.size:=let ⟨o,e,r⟩:=z;bH e
theorem SetE.typeIs{s:Shared}{es:Array (Int×Value)}(z:SetE s.heap a n led es ep):s.TypeIs (.ref a) "set":=let ⟨o,e,x,_⟩:=z;(zn o e x.1)
theorem slot_seti_next:Slot "set_iterator" "__next__" "set_iterator.__next__":=
 .of (owner:="set_iterator") (n:="__next__") (by rw [typeLookup_type,builtinLookup_eq_fast];kernel_rfl) Jkk Jkk Jkk
  (by first | exact .inl Jkk | exact .inr Jkk) (by rw [isSubtype_type];kernel_rfl)
theorem fH:Slot "set_iterator" "__iter__" "set_iterator.__iter__":=
 .of (owner:="set_iterator") (n:="__iter__") (by rw [typeLookup_type,builtinLookup_eq_fast];kernel_rfl) Jkk Jkk Jkk
  (by first | exact .inl Jkk | exact .inr Jkk) (by rw [isSubtype_type];kernel_rfl)
theorem ft:entryFor table "set_iterator.__next__"=some Builtin.«set_iterator.__next__»:=entryFor_of_tree Jkl
theorem iZ:entryFor table "set_iterator.__iter__"=some Builtin.«dict_keyiterator.__iter__»:=
 entryFor_alias (id':="dict_keyiterator.__iter__") Jkl (by first | rfl | decide +kernel | (unfold String.splitOn;simp +decide [String.splitOnAux])) Jkk Jkl
theorem jD:entryFor table "set.__iter__"=some Builtin.«frozenset.__iter__»:=
 entryFor_alias (id':="frozenset.__iter__") Jkl (by first | rfl | decide +kernel | (unfold String.splitOn;simp +decide [String.splitOnAux])) Jkk Jkl
theorem fz(a:Value):argsOk "set_iterator.__next__" ⟨[a],[]⟩:=by unfold argsOk;kernel_rfl
theorem jt(a:Value):argsOk "set_iterator.__iter__" ⟨[a],[]⟩:=by unfold argsOk;kernel_rfl
def SetI(h:Heap)(w:World)(it a:Addr)(n ep i:Nat):Prop:=∃o,h.get? it=some o/\o.cls=.type "set_iterator"/\o.data=.fields #[.int ((if byT w=true then 0 else i:Nat):Int) 0,.int (i:Int) 0,.ref a,.int (n:Int) 0,.int (ep:Int) 0]
theorem SetI.typeIs{s:Shared}{w:World}(x:SetI s.heap w it a n ep i):s.TypeIs (.ref it) "set_iterator":=let ⟨o,ho,hc,_⟩:=x;(zn o ho hc)
theorem SetI.mv{h h':Heap}{w:World}(x:SetI h w it a n ep i)(k:∀o,h.get? it=some o->h'.get? it=some o):SetI h' w it a n ep i:=let ⟨o,ho,r⟩:=x;(zn o (k o ho) r)
section
variable {prog:Program} {w:World} {A:Around} {E:Value->Shared->Prop} {s:Shared}
theorem rR{a:Addr}{n ep:Nat}{es:Array (Int×Value)}{Q:Value->Shared->Prop}(hS:SetE s.heap a n (! byT w) es ep)
  (hQ:Q (.ref s.heap.objs.size) {s with heap:=s.heap.push {cls:=.type "set_iterator",data:=.fields #[.int 0 0,.int 0 0,.ref a,.int (n:Int) 0,.int (ep:Int) 0]}}) :
  wpAny (model prog w) A (pyIter (.ref a)) Q E s:=by
 have hT:=hS.typeIs;obtain ⟨o,ho,hx,hd,hsz,hn,hel⟩:=hS;have hf:(tbl n (! byT w)).fits es.size=true:=by rw [hsz];exact tb3 n hn _
 refine wpAny_pyIter_slot hT F.slot_set_iter (wpAny_call_entry F.slot_set_iter hT jD ?_ (F.args_set_iter_1 _));unfold Builtin.«frozenset.__iter__» Builtin.Frozenset.slot0 Builtin.Frozenset.sizeOf setEntries setDrawn setEpoch setsByText;refine zq0 ?_;refine zq0 (zq3 ?_);refine zq3 ?_;refine zq0 (zq0 (zq0 (wpAny_setState_of ho hd hf (zq3 (zq3 ?_)))));refine zq0 (zq0 (wpAny_setState_of ho hd hf ?_));refine zq0 (zq0 (wpAny_askSetting (zq3 ?_)));refine zq3 ?_;rw [zq1 (fun h=>by have h2:(false:Bool)=true:=((ee _ _).mp h).2;cases h2)];refine zq0 (zq3 ?_);refine zq0 (zq0 (wpAny_setState_of ho hd hf (zq3 ?_)));refine zq0 (wpAny_newObj_type (zq3 (zn _ rfl (zAA ("set_iterator") _ (zn _ (cF _ rfl) rfl) slot_seti_next.lookup ?_))));simpa [rawInt,hsz] using hQ
theorem pA{Q:Value->Shared->Prop}(hi:SetI s.heap w it a n ep i)(h:Q (.ref it) s):wpAny (model prog w) A (pyIter (.ref it)) Q E s:=by refine wpAny_pyIter_slot hi.typeIs fH (wpAny_call_entry fH hi.typeIs iZ ?_ (jt _));show wpAny _ _ (ret (.ref it)) _ _ s;exact zq3 (zn _ rfl (zAA ("set_iterator") _ hi.typeIs slot_seti_next.lookup h))
theorem kf{es:Array (Int×Value)}{Q:Option (Value×Nat)->Shared->Prop}(hS:SetE s.heap a n (! byT w) es ep)(hin:i<=n)
 (hQ:Q (((kP w a ep es)[i]?).map fun e=>(e.2,if byT w=true then 0 else i+1)) s):wpAny (model prog w) A (setNext a (if byT w=true then 0 else i) i ep) Q E s:=by
 obtain ⟨o,ho,hx,hd,hsz,hn,hel⟩:=hS;have hf:(tbl n (! byT w)).fits es.size=true:=by rw [hsz];exact tb3 n hn _
 unfold setNext setsByText;refine zq0 (wpAny_setState_of ho hd hf ?_);refine zq0 (zq0 (wpAny_askSetting (zq3 ?_)));show wpAny _ _ (if byT w=true then _ else _) _ _ _;unfold kP at hQ
 cases hb:byT w with
 |true=>
  rw [zq2 rfl];rw [hb] at hQ;rw [zq1 Jll];unfold setWalk setsByText;refine zq0 ?_;refine zq0 (wpAny_setState_of ho hd hf ?_);refine zq0 (zq0 (wpAny_askSetting (zq3 ?_)));show wpAny _ _ (if byT w=true then _ else _) _ _ _;rw [hb,zq2 rfl];exact zq0 (wpAny_askSetting (zq3 (zq3 hQ)))
 |false=>
  rw [zq1 Jkm];rw [hb,zq1 Jkm,zq1 Jkm] at hQ;refine qw (fun h=>by have h2:(false:Bool)=true:=h;cases h2) (fun _=>?_);refine zq0 ?_;show wpAny _ _ (pure PUnit.unit) _ _ _;refine zq3 ?_;rw [zq1 (show ¬false=true by decide)];show wpAny _ _ (pure (match es[SetTable.below (Array.range n) i]?,(Array.range n)[SetTable.below (Array.range n) i]? with | some (_,x),some j=>some (x,j+1) | _,_=>none)) _ _ _;rw [tb7 hin,Array.getElem?_range];refine zq3 ?_
  cases he:es[i]? with
  |none=>rw [he] at hQ;exact hQ
  |some e=>
   have hi:i<n:=by rw [<- hsz];exact (zq91.mp he).1
   rw [he] at hQ;rw [zq2 hi];exact hQ
theorem j9{es:Array (Int×Value)}{e:Int×Value}{Q:Option Value->Shared->Prop}(hit:SetI s.heap w it a n ep i)(hS:SetE s.heap a n (! byT w) es ep)(he:(kP w a ep es)[i]?=some e)
 (hQ:∀h',SetI h' w it a n ep (i+1)->Heap.SameBut it s.heap h'->Q (some e.2) {s with heap:=h'}):wpAny (model prog w) A (pyNext (.ref it)) Q E s:=by
 obtain ⟨o,ho,hc,hd⟩:=id hit;obtain ⟨oS,hoS,hxS,hdS,hsz,hn,hel⟩:=id hS;have hf:(tbl n (! byT w)).fits es.size=true:=by rw [hsz];exact tb3 n hn _
 unfold pyNext;refine zq0 (wpAny_attempt (wpAny_callSpecial?_slot (name:=Str.ofString "__next__") hit.typeIs slot_seti_next (wpAny_call_entry slot_seti_next hit.typeIs ft ?_ (fz _))));unfold Builtin.«set_iterator.__next__»;refine zq0 (zq3 ?_);refine zq0 (wpAny_fieldsOf ho hd ?_);show wpAny _ _ (setEntries a >>= _) _ _ s;unfold setEntries;refine zq0 (zq0 (wpAny_setState_of hoS hdS hf (zq3 ?_)));rw [zq1 (by simp [hsz])];show wpAny _ _ (setNext a (if byT w=true then 0 else i) i ep >>= _) _ _ s;refine zq0 (kf hS (by have:=(zq91.mp he).1;rw [hV] at this;omega) ?_);rw [he];show wpAny _ _ (setField (.ref it) 0 (rawInt (((if byT w=true then 0 else i+1:Nat)):Int)) >>= _) _ _ s;refine zq0 (wpAny_setField ho hd Jll ?_);have ho1:=sI (Obj.mapFields (·.setIfInBounds 0 (rawInt (((if byT w=true then 0 else i+1:Nat)):Int)))) ho (Obj.isFreed_of_fields (Obj.data_mapFields hd _));have hd1:=Obj.data_mapFields hd (fun vs=>vs.setIfInBounds 0 (rawInt (((if byT w=true then 0 else i+1:Nat)):Int)));refine zq0 (wpAny_setField ho1 hd1 Jll (zq3 (zn e.2 rfl (zq3 (hQ _ ?_ ((Heap.SameBut.update ..).trans (Heap.SameBut.update ..)))))));exact zAC _ (sI _ ho1 (Obj.isFreed_of_fields (Obj.data_mapFields hd1 _))) (((Obj.cls_mapFields ..).trans (Obj.cls_mapFields ..)).trans hc) (by rw [Obj.data_mapFields hd1];simp [rawInt])
theorem jY{es:Array (Int×Value)}{Q:Option Value->Shared->Prop}(hh:A.handled=none)(hit:SetI s.heap w it a n ep n)(hS:SetE s.heap a n (! byT w) es ep)
 (hQ:∀h',Heap.ExtBut it s.heap h'->Q none {s with heap:=h'}):wpAny (model prog w) A (pyNext (.ref it)) Q E s:=by
 obtain ⟨o,ho,hc,hd⟩:=id hit;obtain ⟨oS,hoS,hxS,hdS,hsz,hn,hel⟩:=id hS;have hf:(tbl n (! byT w)).fits es.size=true:=by rw [hsz];exact tb3 n hn _
 unfold pyNext;refine zq0 (wpAny_attempt (wpAny_callSpecial?_slot (name:=Str.ofString "__next__") hit.typeIs slot_seti_next (wpAny_call_entry slot_seti_next hit.typeIs ft ?_ (fz _))));unfold Builtin.«set_iterator.__next__»;refine zq0 (zq3 ?_);refine zq0 (wpAny_fieldsOf ho hd ?_);show wpAny _ _ (setEntries a >>= _) _ _ s;unfold setEntries;refine zq0 (zq0 (wpAny_setState_of hoS hdS hf (zq3 ?_)));rw [zq1 (by simp [hsz])];show wpAny _ _ (setNext a (if byT w=true then 0 else n) n ep >>= _) _ _ s;refine zq0 (kf hS (zq6 _) ?_);rw [Array.getElem?_eq_none (by rw [hV];omega)];show wpAny _ _ (setField (.ref it) 2 .none >>= _) _ _ s;refine zq0 (wpAny_setField ho hd Jll ?_);refine zq0 ?_;show wpAny _ _ (newExc (.type "StopIteration") [] >>= _) _ _ _;refine zq0 ?_;simp only [newExc,newTuple];refine zq0 (wpAny_newObj_type ?_ (by size_fits));refine zq0 (m:=firstArgMember _ _) (wpAny_of_eq (a:=Value.none) (by first | rfl | (simp only [firstArgMember];rfl)) ?_);refine wpAny_newObj_type ?_ (by size_fits);simp only [raiseNew];refine zq3 ?_;refine zq0 (wpAny_handled ?_);rw [show A.in1.handled=none from hh];refine zq0 (zq3 (wpAny_throw ?_));refine zq0 (wpAny_isInstance (T:="StopIteration") (b:=true) ⟨_,cF _ rfl,rfl⟩ isSubtype_stop ?_);exact zq3 (hQ _ (fun b o hb e=>bO _ (bO _ ((As _ _ (Ne.symm hb)).trans e))))
theorem wR(hh:A.handled=none)(it a:Addr)(hne:a≠it)(n ep:Nat)(es:Array (Int×Value)):
  Walks prog w A it [it,a] [it] n (fun i v=>∃e,(kP w a ep es)[i]?=some e/\v=e.2) (fun i h=>SetI h w it a n ep i/\SetE h a n (! byT w) es ep) where
 sub:=fun b hb=>by simp at hb;simp [hb]
 frame:=fun _ _ _ st hk=>⟨st.1.mv fun o e=>hk it Jll o e,st.2.mv fun o e=>hk a Jll o e⟩
 item:=fun i s Q E hi st hQ=>by
  obtain ⟨o,ho,hx,hd,hsz,hn,hel⟩:=id st.2;obtain ⟨e,he⟩:∃e,(kP w a ep es)[i]?=some e:=⟨_,sN (by rw [hV];omega)⟩
  refine j9 st.1 st.2 he fun h' hit' hs'=>?_;exact hQ e.2 h' s.toks (zn e he rfl) ⟨hit',st.2.mv fun o e=>hs'.extBut a o hne e⟩ fun b o hb e=>hs'.extBut b o (fun h=>hb (by simp [h])) e
 done:=fun s Q E st hQ=>jY hh st.1 st.2 fun h' he'=>hQ h' s.toks fun b o hb e=>he' b o (fun h=>hb (by simp [h])) e
 self:=fun _ _ _ _ st hQ=>pA st.1 hQ
theorem xY{r:Addr}{Q:Bool->Shared->Prop}(hT:s.TypeIs (.ref r) "set") (h:Q false s):wpAny (model prog w) A (Builtin.List.listLengthHint (.ref r)) Q E s:=by
 unfold Builtin.List.listLengthHint;refine zq0 (wpAny_specialOf hT PySem.F.slot_set_len.lookup ?_);generalize hid:("set.__len__":String)=id0
 wp_delta
 rw [show splitId id0=some ("set","__len__") from by subst hid;decide +kernel];subst hid;refine zq0 (wpAny_isInstance (T:="set") (b:=true) hT (by rw [isSubtype_type];kernel_rfl) ?_);refine qw (fun hab=>absurd hab Jkm) (fun _=>?_);refine qw (fun _=>?_) (fun hab=>absurd Jkk hab);refine zq0 (wpAny_typeOf hT ?_);exact zq3 h
theorem BA{es:Array (Int×Value)}:W.KdlSrc prog w "set" a a n (fun i v=>∃e,(kP w a ep es)[i]?=some e/\v=e.2) (fun h=>SetE h a n (! byT w) es ep) where
 type:=fun _ hm=>hm.typeIs
 there:=fun _ hm=>⟨hm.lt,hm.lt⟩
 keep:=fun _ _ hm hk=>hm.mv fun o e=>hk a (.inl rfl) o e
 notList:=by decide
 notTuple:=by decide
 hint:=fun _ _ _ _ hm hq=>xY hm.typeIs hq
 iter:=fun _ _ hh hm=>zAA _ _ (fun _ _ hq=>rR hm hq) (wR hh _ a (cf hm.lt) n ep es) ⟨zAC _ (cF _ rfl) rfl Jll,hm.mv fun o e=>bO _ e⟩
end
end HC
namespace HC
def nxN(n k:Nat):Nat:=if k=n then n+1 else n
def cM(l:List Nat):Nat:=l.foldl nxN 0
theorem io{l:List Nat}{k:Nat}:cM (l++[k])=nxN (cM l) k:=by unfold cM;rw [qJ];rfl
theorem oB:∀(l:List Nat)(n:Nat),l.foldl nxN n<=n+l.length
 | [],n=>zq6 _
 |k::l,n=>by
  have:=oB l (nxN n k);rw [vk,d5];have:nxN n k<=n+1:=by unfold nxN;split<;>omega
  omega
theorem mw{l:List Nat}:cM l<=l.length:=by have:=oB l 0;unfold cM;omega
def jr(l:List Nat):Prop:=∀(i k:Nat),l[i]?=some k->k<=cM (l.take i)
section
variable {prog:Program} {w:World} {A:Around} {R:Result->Shared->Prop} {it:Addr} {fp wr:List Addr} {G:Array GenState->Array GenState->Prop} {n:Nat} {P:Nat->Value->Prop} {St:Nat->Shared->Prop}
theorem pI(W:WalksS prog w A.in1 it fp wr G n P St){c:Addr}{led:Bool}(hc:c∉fp){ns:List Nat}(hn:ns.length=n)(hv:∀(i:Nat)v,P i v->∃(x:Nat)(t:Tok),ns[i]?=some x/\v=.int (x:Int) t)(hN:jr ns)(hb:n<64):
  ∀(k i:Nat)(s:Shared),k+i=n->St i s->SetN s.heap c (cM (ns.take i)) led->(∀s',Moved (c::wr) G s s'->SetN s'.heap c (cM ns) led->R (.ok (.ret .none)) s')->
   codeAny (model prog w) A (.builtin "set.update.loop" ⟨[.ref c,.ref it],[]⟩) R s
 |0,i,s,hk,st,hS,q=>by
  obtain rfl:i=n:=by omega
  rw [show ns.take i=ns by rw [<- hn,ef]] at hS;refine sL F.entry_set_update_loop ?_;rw [Around.under_plainId F.plain_set_update_loop _];refine zq0 (m:=pyNext (.ref it)) (W.done s _ _ st fun s1 mv=>zq3 (q s1 (mv.mono fun b hb=>b7 _ hb) (hS.mv fun o e=>mv.heap c o (fun z=>hc (W.sub _ z)) e)))
 |k+1,i,s,hk,st,hS,q=>by
  refine sL F.entry_set_update_loop ?_;rw [Around.under_plainId F.plain_set_update_loop _];refine zq0 (m:=pyNext (.ref it)) (W.item i s _ _ Jlk st fun v s1 hp st1 mv=>?_);obtain ⟨x,t,hx,rfl⟩:=hv i v hp;obtain ⟨hi,ex⟩:=zq7.mp hx;have hS1:=hS.mv (h':=s1.heap) fun o e=>mv.heap c o (fun z=>hc (W.sub _ z)) e;refine zq0 (m:=holding [Value.int x t] (setAdd c (.int x t))) (kD ?_);unfold setAdd;refine kD (zq0 ((intKind prog w).pyHash (k:=(x:Int)) (intKind_is _ _ _ _) ?_));have le:cM (ns.take i)<=(ns.take i).length:=mw;rw [dY] at le;refine zI (s:={s1 with toks:=s1.toks+1}) hS1 (hN i x hx) Jlk fun b h2 sb hS2=>?_;have et:ns.take (i+1)=ns.take i++[x]:=by rw [df hi,ex]
  have hS3:SetN h2 c (cM (ns.take (i+1))) led:=by rw [et,io];exact hS2
  refine zq3 ⟨plainId_quiet F.plain_set_update_loop _,pI W hc hn hv hN hb k (i+1) _ Jlk (W.frame _ s1 _ _ st1 (x9 _) fun b hb o e=>?_) hS3 fun s3 mv3=>q s3 (Moved.trans W.gtrans ((mv.mono fun b hb=>b7 _ hb).then_heap (x9 _) fun b o hb e=>?_) mv3)⟩
  ·exact (sb.2 b (fun z=>hc (by rw [<- z];exact hb))).trans e
  ·exact (sb.2 b (fun z=>hb (by rw [z];exact cN))).trans e
end
section
variable {prog:Program} {w:World} {A:Around} {E:Value->Shared->Prop} {s:Shared}
theorem kL(a:Value){Q₁:Value->Shared->Prop}
  (h:Q₁ (.ref s.heap.objs.size) {s with heap:=s.heap.push {cls:=.type "set",dict:=none,data:=.set #[] 0 (.fresh 0 0 (! byT w))}}) :
  codeAny (model prog w) A (.call (.builtin "set.__new__") ⟨[.type "set",a],[]⟩) (wants Q₁ E) s:=by
 refine codeAny_of_tree ?_;show wpAny _ A.in1 (do checkBuiltinCall "set.__new__" ⟨[.type "set",a],[]⟩;again (.builtin "set.__new__" ⟨[.type "set",a],[]⟩)) _ _ s;refine zq0 (wpAny_of_eq (F.newCall_set_1 a) (zq3 ⟨plainId_quiet F.plain_set_new _,sL F.entry_set_new ?_⟩));rw [Around.under_plainId F.plain_set_new _];unfold Builtin.«set.__new__» Builtin.Frozenset.newClass;have hsub:=sub_set_self;obtain ⟨hp,g,d,tk,os⟩:=s;dsimp only
 wp_walk
 refine wpAny_askSetting (zq3 ?_);dsimp only;simp only [newObj];refine zq0 (wpAny_alloc (zq3 ?_));exact zq3 h
set_option maxHeartbeats 4000000 in
theorem w5{l:Addr}{items:Array Value}{ns:List Nat}{Q:Value->Shared->Prop}(hh:A.handled=none)(hl:s.heap.IsList l items)(hv:∀(i:Nat)v,items[i]?=some v->∃(x:Nat)(t:Tok),ns[i]?=some x/\v=.int (x:Int) t)(hn:ns.length=items.size)(hN:jr ns)(hb:items.size<64)
  (q:∀(h':Heap)(tk:Nat),SetN h' s.heap.objs.size (cM ns) (! byT w)->(∀b o,s.heap.get? b=some o->h'.get? b=some o)->Q (.ref s.heap.objs.size) {s with heap:=h',toks:=tk}) :
  wpAny (model prog w) A (call (.type "set") [.ref l]) Q E s:=by
 obtain ⟨c,tl,hmro⟩:=F.called_set.mro;have hmade:=F.called_set.made;have hsub:=F.called_set.sub;have h1:=F.called_set.notType;have h2:=F.called_set.canCreate;have hct:=F.typeCall_set_1 (.ref l);refine wpAny_call (codeAny_of_tree (show wpAny _ _ (callAny (.type "set") _) _ _ _ from zq3 ⟨Code.quiet_builtin _ Jkk,sL F.entry_type_call ?_⟩));rw [Around.under_plain (weight_type_call_type "set" [.ref l] []) rfl]
 repeat (any_goals (first | assumption | wp_step))
 refine codeAny_mono (kL (.ref l) (E:=E) (Q₁:=fun v s1=>v=.ref s.heap.objs.size/\s1={s with heap:=s.heap.push {cls:=.type "set",dict:=none,data:=.set #[] 0 (.fresh 0 0 (! byT w))}}) ⟨rfl,rfl⟩) fun r s1 hr=>?_
 match r,hr with
 | .ok (.ret v),hr=>
  obtain ⟨rfl,rfl⟩:=hr;obtain ⟨o0,ho0⟩:∃o0:Obj,o0={cls:=.type "set",dict:=none,data:=.set #[] 0 (.fresh 0 0 (! byT w))}:=⟨_,rfl⟩
  rw [<- ho0];have hS:(s.heap.push o0).get? s.heap.objs.size=some o0:=cF _ (by rw [ho0];rfl);have hT:Shared.TypeIs {s with heap:=s.heap.push o0} (.ref s.heap.objs.size) "set":=zn o0 hS (by rw [ho0])
  have hli:=F.called_set.init.lookup;have hbi:=F.called_set.init.bind (.ref s.heap.objs.size)
  repeat (any_goals (first | assumption | wp_step))
  refine codeAny_mono (codeAny_call_builtin (R:=wants (fun r s2=>r=.none/\∃h' tk,s2={s with heap:=h',toks:=tk}/\SetN h' s.heap.objs.size (cM ns) (! byT w)/\∀b o,s.heap.get? b=some o->h'.get? b=some o) E) F.called_set.init.plain F.entry_set_init (check_set_init_1 hT ?_)) fun r2 s2 hr2=>?_
  ·obtain ⟨⟨oc,od,ot,os⟩,hol,hcl,nl,hdl⟩:=hl;replace hcl:oc=.type "list":=hcl;replace hdl:ot=.seq items nl:=hdl;subst hcl hdl;have hol2:(s.heap.push o0).get? l=some {cls:=.type "list",dict:=od,data:=.seq items nl,slots:=os}:=bO _ hol;have hsls:=F.sub_list_set;have hslf:=F.sub_list_frozenset;have hne:(Value.type "list"==Value.type "dict")=false:=by decide
   have hL:(s.heap.push o0).IsList l items:=zAC _ hol2 rfl ⟨nl,rfl⟩
   have zp:(s.heap.push o0).objs.size=s.heap.objs.size+1:=iI ..;subst ho0;unfold Builtin.«set.__init__» noKeywords Builtin.Frozenset.updateFrom;generalize hPI:pyIter=PI
   wp_walk
   subst hPI;refine wpAny_pyIter_list hL ?_;refine zq0 (wpAny_runValue ?_);have lt:l<s.heap.objs.size:=bH hol;refine pI ((Walks.list (by simp [hh]) _ l (by rw [zp];exact cf (AI lt)) items).toS) (c:=s.heap.objs.size) (led:=! byT w) (by
    rw [zp];intro z;rcases zq11.mp z with z | z
    ·exact absurd z (cf (x8 _))
    ·exact absurd (zq9.mp z) (sH lt)) hn hv hN hb items.size 0 _ rfl ⟨zAC _ (cF _ rfl) rfl rfl,hL.push _⟩ ?_ ?_
   ·exact zAI _ (#[]) 0 (bO _ hS) (zAB rfl rfl rfl) (by show Data.set #[] 0 (.fresh 0 0 (! byT w))=_;rw [tb0];rfl) rfl (fun i e he=>by simp at he)
   ·intro s3 mv hS3;obtain ⟨h3,g3,d3,tk3,os3⟩:=s3;obtain rfl:g3=s.gens:=mv.gens;obtain rfl:d3=s.drawn:=mv.drawn;obtain rfl:os3=s.os:=mv.os;refine zq3 ?_;refine zq3 ⟨rfl,zAA h3 tk3 rfl hS3 fun b o e=>?_⟩;have bl:=bH e;refine mv.heap b o ?_ (bO _ (bO _ e));rw [zp];intro z;rcases zq11.mp z with z | z
    ·exact absurd z (cf bl)
    ·exact absurd (zq9.mp z) (cf (AI bl))
  ·match r2,hr2 with
   | .ok (.ret v),hr2=>
    obtain ⟨rfl,h',tk,rfl,a1,a2⟩:=hr2
    repeat (any_goals (first | assumption | wp_step))
    exact q _ _ a1 a2
   | .error e,hr2=>exact hr2
 | .error e,hr=>exact hr
end
end HC
end
namespace L2
open PySem PySem.Spec PyProof.Rows
def lY(w:World)(p:Addr)(n:Nat):HO:=.ext fun h=>n<64/\HC.SetN h p n (! HC.byT w)
variable {X:Cx}
def D0(w:World)(K:W.Frag):List V->Hp->VK->Prop:=fun xs H Q=>∃(a:Addr)(ns:List Nat),xs=[.ref a]/\SqL K H a (ns.map fun (n:Nat)=>V.int (n:Int))/\HC.jr ns/\ns.length<64/\∀p:Addr,H p=none->Q (.ref p) (upd H p (lY w p (HC.cM ns)))
theorem vB(hc:X.calm=true):dM X (.type "set") (D0 X.w X.K):=by
 intro pins s σ H xs us Q I r h;obtain ⟨a,ns,rfl,hq,hN,h64,q⟩:=h;obtain ⟨u,rfl,ru⟩:=fu r
 cases ru
 obtain ⟨its,rv,pl,_⟩:=I.list hq;have hl:=rv.length;rw [zq4] at hl;refine HC.w5 (I.ok.hd hc) pl.isList (ns:=ns) (fun i v hv=>?_) (by rw [dZ];omega) hN (by rw [dZ];omega) fun h' tk hS hk=>?_
 ·have hi:=(zq91.mp hv).1;rw [dZ] at hi;obtain ⟨x,hx⟩:∃x,ns[i]?=some x:=⟨_,zq5 Jlk⟩
  obtain ⟨u,hu,t,rfl⟩:=rv.get (i:=i) (x:=.int (x:Int)) (by rw [bq,hx];rfl);rw [E6,hu] at hv
  cases hv
  exact zAE x t hx rfl
 ·have le:HC.cM ns<=ns.length:=HC.mw;obtain ⟨o,es,ep,e1,r⟩:=id hS;exact zAA (.ref s.heap.objs.size) _ (I.laid (t':=tk) hk (zq6 _) (show ObjOk X.prog X.w _ h' _ (lY X.w s.heap.objs.size (HC.cM ns)) from zAB ⟨Jlk,hS⟩ ⟨o,e1⟩ fun h1 h2 ⟨z,y⟩ k=>⟨z,y.mv k⟩)) rfl (q _ (I.hok.fresh (zq6 _)))
theorem Gj{w:World}{K:W.Frag}{a:Addr}{H:Hp}{Q:VK}:D0 w K [.ref a] H Q=∃ns:List Nat,SqL K H a (ns.map fun (n:Nat)=>V.int (n:Int))/\HC.jr ns/\ns.length<64/\∀p:Addr,H p=none->Q (.ref p) (upd H p (lY w p (HC.cM ns))):=propext ⟨by rintro ⟨_,ns,e,q⟩;cases e;exact ⟨ns,q⟩,by rintro ⟨ns,q⟩;exact zAE a ns rfl q⟩
theorem wu{l l':List Value}(h:l.Perm l'):∀{ns':List Int},IntsAre l' ns'->∃ns,IntsAre l ns/\ns.Perm ns':=by
 induction h with
 |nil=>intro ns' h;exact zn _ h (.refl _)
 |cons x _ ih=>
  intro ns' h
  cases h with
  |cons n t h=>
   obtain ⟨ns,h1,h2⟩:=ih h;exact zn _ (.cons n t h1) (h2.cons n)
 |swap x y l=>
  intro ns' h
  cases h with
  |cons n t h=>
   cases h with
   |cons m u h=>exact zn _ (.cons m u (.cons n t h)) (.swap ..)
 |trans _ _ ih1 ih2=>intro ns' h;obtain ⟨ns,h1,h2⟩:=ih2 h;obtain ⟨ns2,h3,h4⟩:=ih1 h1;exact zn ns2 h3 (h4.trans h2)
theorem lH:∀{ns:List Int} {vs:List Value},Vals (ns.map V.int) vs->IntsAre vs ns
 | [],_,.nil=>.nil
 |n::ns,_,.cons ⟨t,e⟩ h=>by subst e;exact .cons n t (lH h)
def pB(w:World):List V->Hp->VK->Prop:=fun xs H Q=>∃(p:Addr)(n:Nat),xs=[.ref p]/\H p=some (lY w p n)/\∀l:Addr,H l=none->Q (.ref l) (upd H l (.lst ((List.range n).map fun (n:Nat)=>V.int (n:Int))))
theorem mr(hc:X.calm=true):dM X (.builtin "sorted") (pB X.w):=by
 intro pins s σ H xs us Q I r h;obtain ⟨a,n,rfl,e,q⟩:=h;obtain ⟨u,rfl,ru⟩:=fu r
 cases ru
 obtain ⟨⟨h64,hSN⟩,_⟩:=I.hok a _ e;obtain ⟨o,es,ep,ho,hx,hd,hsz,hel⟩:=id hSN;have hS:HC.SetE s.heap a n (! HC.byT X.w) es ep:=zBI o ho hx hd hsz h64 hel
 refine Calls.call_function_entry kind_sorted plain_sorted entry_sorted (args_sorted1 (.ref a)) ?_;unfold Builtin.«sorted»;refine zq0 (m:=checkCount "sorted" 1 1 _) (zq3 ?_);refine zq0 (W.kdu_collect (HC.BA (prog:=X.prog) (w:=X.w)) (I.ok.hd hc) hS (by rw [b9];omega) fun h' tk acc hk hacc=>?_);have hal:acc.toList.length=n:=by rw [ja,hacc.1]
 have hvm:acc.toList=(HC.kP X.w a ep es).toList.map (·.2):=by
  apply nz;intro i
  by_cases hi:i<n
  ·have e1:acc.toList[i]?=some acc.toList[i]:=zq5 Jlk;obtain ⟨e2,h1,h2⟩:=hacc.2 i _ (by rw [<- qF];exact e1);rw [e1,bq,qF,h1,h2];rfl
  ·rw [gf Jlk,gf (by rw [zq4,ja,HC.hV];omega)]
 have hpm:acc.toList.Perm (es.toList.map (·.2)):=by rw [hvm];exact HC.ord_perm.map _
 have hev:Vals ((List.range n).map fun (n:Nat)=>V.int (n:Int)) (es.toList.map (·.2)):=by refine uY (by rw [zq4,zq4,cX,ja];exact hsz) fun j v hj=>?_;rw [bq,qF] at hj;obtain ⟨e1,h1,h2⟩:=zq47.mp hj;obtain ⟨_,t,h3⟩:=hel j e1 h1;have hjn:=(zq91.mp h1).1;refine zn (.int (j:Int)) (by rw [bq,xh Jlk];rfl) ?_;rw [<- h2,h3];exact ⟨t,rfl⟩
 have hIe:IntsAre (es.toList.map (·.2)) ((List.range n).map fun (n:Nat)=>(n:Int)):=lH (by rw [eG];exact hev);obtain ⟨ns,hI,hP⟩:=wu hpm hIe;refine zq0 (wpAny_newList ?_);have hoL:(h'.push (seqObj "list" acc.toList.toArray 0)).get? h'.objs.size=some (seqObj "list" acc.toList.toArray 0):=cF _ rfl;refine zq0 (kD (wpAny_call_entry slot_list_sort (zn _ hoL rfl) entry_list_sort (list_sort_tree hoL hI Jlk fun out ns' a1 a2 a3=>zn _ rfl ?_) (args_list_sort _)));have eq:ns'=(List.range n).map fun (n:Nat)=>(n:Int):=by refine List.Perm.eq_of_pairwise (le:=(·<=·)) (fun a b _ _ h1 h2=>Int.le_antisymm h1 h2) a3 ?_ (a2.trans hP);rw [zq125];exact zq120.imp fun h=>by omega
 subst eq;refine zq3 (zn _ rfl ?_);obtain ⟨ep',he⟩:=sortedHeap_at (out:=out) hoL;have I1:Inv X pins σ H {s with heap:=h',toks:=tk}:=I.kept (t':=tk) hk;have hk2:∀b o,h'.get? b=some o->(sortedHeap (h'.push (seqObj "list" acc.toList.toArray 0)) h'.objs.size acc.toList out).get? b=some o:=fun b o hb=>by have hlt:=bH hb;rw [sortedHeap_old (cf hlt) (by rw [size_push'];exact AI hlt),Heap.get?_push_ne _ _ _ (cf hlt)];exact hb
 have hv2:Vals ((List.range n).map fun (n:Nat)=>V.int (n:Int)) out.toList:=by have z:=fW a1;rw [eG] at z;exact z
 refine zAA (.ref h'.objs.size) _ (I1.laid (t':=tk) hk2 (zq6 _) (show ObjOk X.prog X.w _ (sortedHeap (h'.push (seqObj "list" acc.toList.toArray 0)) h'.objs.size acc.toList out) _ (.lst ((List.range n).map fun (n:Nat)=>V.int (n:Int))) from ⟨?_,zAE out.toList ep' hv2 ?_⟩)) rfl (q _ (I1.hok.fresh (zq6 _)))
 ·rw [zq4,cX,b9];omega
 ·rw [Array.toArray_toList];exact he
theorem wF{w:World}{p:Addr}{H:Hp}{Q:VK}:pB w [.ref p] H Q=∃n:Nat,H p=some (lY w p n)/\∀l:Addr,H l=none->Q (.ref l) (upd H l (.lst ((List.range n).map fun (n:Nat)=>V.int (n:Int)))):=propext ⟨by rintro ⟨_,n,e,q⟩;cases e;exact ⟨n,q⟩,by rintro ⟨n,q⟩;exact zAE p n rfl q⟩
end L2
local macro_rules | `(tactic| simp_arith [$ts,*] $l:location)=>`(tactic| simp only [L2.K0,L2.JG,L2.K1,L2.JH,L2.K2,L2.JI,L2.K3,L2.JJ,L2.K4,L2.JK,L2.K5,L2.JL,L2.K6,L2.JM,L2.K7,L2.JN,L2.K8,L2.JO,L2.K9,L2.JP,L2.Jc,L2.Iu,L2.Jd,L2.Iv,L2.Je,L2.Iw,L2.Jf,L2.Iy,L2.Jg,L2.Iz,L2.Jh,L2.IA,L2.Ji,L2.IB,L2.Jj,L2.IC,L2.Jk,L2.ID,L2.r_c,L2.JT,L2.JW,L2.JZ,L2.y_I,L2.y_U,L2.Im,L2.Io,L2.Il,L2.IK,L2.IL,L2.FC,L2.Ck,L2.Gp,L2.r_B,L2.Ig,L2.JU,L2.IN,L2.Fl,L2.IO,L2.Gg,L2.JQ,L2.Gf,L2.zl,L2.Fq,L2.Fu,L2.IR,L2.D2,L2.Ii,L2.JD,L2.IM,L2.Fp,L2.Fo,L2.IU,L2.IJ,L2.Fs,L2.JV,L2.zi,L2.Gi,L2.FE,L2.Cm,L2.IF,L2.JS,L2.JR,L2.FU,L2.FV,L2.FY,L2.G0,L2.G7,L2.G8,L2.G9,L2.Ir,L2.Co,L2.Cq,L2.FK,L2.Cr,L2.Fv,L2.Fw,L2.Ip,L2.JF,L2.Ij,L2.IH,L2.IG,L2.D3,L2.Ik,L2.IS,L2.za,L2.IQ,L2.Fz,L2.Fx,L2.FT,L2.FH,true_and,and_true,forall_const,Int.reduceLT,L2.Cf,L2.wD,L2.IV,L2.r_isi_int_str,L2.r_isi_str_str,L2.IT,L2.IE,L2.zj,L2.Ey,L2.He,L2.Hn,L2.Fm,L2.Fn,List.map_cons,List.map_nil,List.getElem?_cons_zero,List.getElem?_cons_succ,Option.join_some,L2.JE,L2.Ci,L2.Ft,L2.Fy,L2.FF,List.set_cons_zero,List.set_cons_succ,L2.zg,L2.Gn,L2.FI,L2.Ge,L2.Gd,L2.FJ,L2.Es,L2.Ih,L2.Cg,L2.zf,L2.Cj,L2.wA,L2.Cp,L2.FM,L2.Cs,L2.Ga,L2.wB,L2.Gj,L2.Gk,L2.Gm,L2.zq,L2.wF,L2.zt,$ts,*] $l:location)
local macro_rules | `(tactic| simp_arith [$ts,*])=>`(tactic| simp_arith [$ts,*] at ⊢)
local macro_rules | `(tactic| rwa [$[$ts:term],*]) => `(tactic| simp_arith [$[$ts:term],*])
local macro_rules | `(∅) => `(by first | exact ⟨rfl,rfl,rfl,Jkk,rfl,Jkk,Jkk⟩ | (intro vs H Q E h; first | (obtain ⟨h,_⟩ := h; cases h; rfl) | (obtain ⟨_,h,_⟩ := h; cases h; rfl) | (obtain ⟨_,_,h,_⟩ := h; cases h; rfl) | (obtain ⟨_,_,_,h,_⟩ := h; cases h; rfl) | (obtain ⟨_,_,_,_,h,_⟩ := h; cases h; rfl) | (obtain ⟨_,_,_,_,_,h,_⟩ := h; cases h; rfl) | (obtain ⟨_,_,_,_,_,_,h,_⟩ := h; cases h; rfl) | (obtain ⟨_,_,_,_,_,_,_,h,_⟩ := h; cases h; rfl)))
namespace K80
open PySem L2 PyProof.Rows FA FB FS FP FG FO
def top(i:Nat):Stmt:=PySem.Challenge.pw_deedloom_k80_tables_made_fewer.main.body.getD i (.Pass ⟨0,0,0,0⟩)
abbrev D9:Stmt:=top 1
theorem Gs:aG ["ending"] ["ending"] (ax D9):=∅
abbrev Da:Stmt:=top 2
theorem zG:aG ["ending","places"] ["ending","places"] (ax Da):=∅
abbrev Dc:Stmt:=top 4
theorem sc_102:aG ["table","classes","ways","numbers","places","kept","old"] ["table"] (ax Dc):=∅
abbrev Dd:Stmt:=top 5
theorem sc_103:aG ["table","classes","finer"] ["table"] (ax Dd):=∅
abbrev De:Stmt:=top 6
theorem Gu:aG ["ending"] ["ending"] (ax De):=∅
abbrev Df:Stmt:=top 7
theorem sc_105:aG ["table","classes","marks","state","own"] ["table","classes"] (ax Df):=∅
abbrev Dg:Stmt:=top 8
theorem sc_106:aG ["marks","numbers","mark"] ["marks"] (ax Dg):=∅
abbrev Dh:Stmt:=top 9
theorem sc_107:aG ["table","ways","ahead","place"] ["table"] (ax Dh):=∅
abbrev Di:Stmt:=cu (top 11) 0
theorem Gv:aG ["self","width","ins","boxes","rows"] ["self","width","ins","boxes","rows"] (ax Di):=∅
abbrev Dj:Stmt:=top 12
theorem Gw:aG ["rows"] ["rows"] (ax Dj):=∅
abbrev Dk:Stmt:=top 13
theorem Gx:aG ["row"] ["row"] (ax Dk):=∅
abbrev Dl:Stmt:=top 16
theorem sc_111:aG ["program","parting","first"] ["program"] (ax Dl):=∅
abbrev Dm:Stmt:=cu (top 17) 0
theorem Gy:aG ["self"] ["self"] (ax Dm):=∅
abbrev Dn:Stmt:=cu (top 17) 1
theorem Gz:aG ["self"] ["self"] (ax Dn):=∅
abbrev Do:Stmt:=cu (top 17) 2
theorem GC:aG ["self","block"] ["self","block"] (ax Do):=∅
abbrev Dp:Stmt:=cu (top 17) 3
theorem GE:aG ["self","block"] ["self","block"] (ax Dp):=∅
abbrev Dr:Stmt:=cu (top 17) 4
theorem sc_116:aG ["self","rows","block","row"] ["self","rows","block"] (ax Dr):=∅
abbrev Ds:Stmt:=cu (top 17) 5
theorem GF:aG ["self","row","block"] ["self","row","block"] (ax Ds):=∅
abbrev Dt:Stmt:=cu (top 17) 6
theorem sc_118:aG ["self","row","block","behind","ones","others"] ["self","row","block"] (ax Dt):=∅
abbrev Du:Stmt:=cu (top 17) 7
theorem sc_119:aG ["self","row","block","behind","look","inner"] ["self","row","block"] (ax Du):=∅
abbrev Dv:Stmt:=top 20
theorem GG:aG ["deed"] ["deed"] (ax Dv):=∅
abbrev Dw:Stmt:=top 21
theorem GH:aG ["deed"] ["deed"] (ax Dw):=∅
abbrev Dx:Stmt:=top 22
theorem GI:aG ["deed"] ["deed"] (ax Dx):=∅
abbrev Dy:Stmt:=top 23
theorem GJ:aG ["deed"] ["deed"] (ax Dy):=∅
abbrev Dz:Stmt:=top 25
theorem sc_124:aG ["deeds","j","k","earlier","later","name"] ["deeds","j","k"] (ax Dz):=∅
abbrev DA:Stmt:=top 26
theorem sc_125:aG ["deeds","units","layer","everything","ways","longer","done","beats","beat"] ["deeds","units"] (ax DA):=∅
abbrev DB:Stmt:=cu (top 27) 0
theorem GK:aG ["self","deeds","units"] ["self","deeds","units"] (ax DB):=∅
abbrev DC:Stmt:=cu (top 27) 1
theorem sc_127:aG ["self","done","place","missing","beats"] ["self","done"] (ax DC):=∅
abbrev DD:Stmt:=cu (top 27) 2
theorem sc_128:aG ["self","done","beats","place","more","beat","taken"] ["self","done","beats","place"] (ax DD):=∅
abbrev DE:Stmt:=cu (top 27) 3
theorem GL:aG ["self","done","beat","missing"] ["self","done","beat","missing"] (ax DE):=∅
abbrev DF:Stmt:=cu (top 27) 4
theorem sc_130:aG ["self","done","beat","place","sort","earlier","lean","ahead"] ["self","done","beat","place"] (ax DF):=∅
abbrev DG:Stmt:=top 29
theorem sc_131:aG ["program","units","blocks","block","laid_blocks","firsts","many","beats","table","deeds"] ["program","units"] (ax DG):=∅
abbrev DH:Stmt:=top 30
theorem sc_132:aG ["block","units","deeds","ending","beats"] ["block","units"] (ax DH):=∅
abbrev DI:Stmt:=top 31
theorem GM:aG ["deeds","name"] ["deeds","name"] (ax DI):=∅
abbrev DJ:Stmt:=top 33
theorem GN:aG ["_law_found"] ["_law_found"] (ax DJ):=∅
abbrev DK:Stmt:=top 34
theorem sc_135:aG ["_law_cell","_law_k","_law_number"] ["_law_cell","_law_k"] (ax DK):=∅
abbrev DL:Stmt:=top 35
theorem sc_136:aG ["_law_cell","_law_letters","_law_mixed_here","_law_size","_law_place","_law_names_here","_law_k","_law_name","_law_j","_law_at"] ["_law_cell"] (ax DL):=∅
abbrev DM:Stmt:=top 36
theorem GO:aG ["_law_mixed_here","_law_names_here","_law_width"] ["_law_mixed_here","_law_names_here","_law_width"] (ax DM):=∅
abbrev DN:Stmt:=top 37
theorem sc_138:aG ["_law_mixed_here","_law_names_here","_law_width","_law_one","_law_name","_law_op"] ["_law_mixed_here","_law_names_here","_law_width"] (ax DN):=∅
abbrev DO:Stmt:=top 38
theorem GP:aG ["_law_stack","_law_row"] ["_law_stack","_law_row"] (ax DO):=∅
abbrev DP:Stmt:=top 39
theorem sc_140:aG ["_law_stack","_law_kind","_law_rows","_law_name","_law_ones"] ["_law_stack"] (ax DP):=∅
abbrev DQ:Stmt:=top 40
theorem sc_141:aG ["_law_cells","_law_names_here","_law_width","_law_most","_law_stack","_law_many","_law_k","_law_cell","_law_mixed_here","_law_way","_law_kind","_law_rows","_law_name","_law_ones"] ["_law_cells","_law_names_here","_law_width","_law_most"] (ax DQ):=∅
abbrev DR:Stmt:=top 41
theorem GQ:aG ["_law_ending"] ["_law_ending"] (ax DR):=∅
abbrev DS:Stmt:=top 42
theorem sc_143:aG ["_law_table","_law_found","_law_at","_law_state"] ["_law_table"] (ax DS):=∅
abbrev DT:Stmt:=top 43
theorem sc_144:aG ["_law_table","_law_some","_law_unlike","_law_one","_law_other","_law_turned","_law_a","_law_b"] ["_law_table","_law_some"] (ax DT):=∅
abbrev DU:Stmt:=top 44
theorem sc_145:aG ["_law_table","_law_found","_law_places","_law_some","_law_state","_law_new"] ["_law_table","_law_found","_law_places","_law_some"] (ax DU):=∅
abbrev DV:Stmt:=top 45
theorem sc_146:aG ["_law_script","_law_cells","_law_first","_law_width","_law_ins","_law_others","_law_rows","_law_half","_law_units","_law_table","_law_state","_law_handed","_law_told_tuple","_law_found","_law_places","_law_some","_law_unlike","_law_one","_law_other"] ["_law_script"] (ax DV):=∅
def kvs_SORTS:List (Key×V):=[(.inr "plus",.int 0),(.inr "less",.int 0),(.inr "below",.int 1),(.inr "same",.int 1),(.inr "and",.int 2),(.inr "or",.int 2),(.inr "xor",.int 2)]
set_option genInjectivity false in
structure Ad where
 pr:Params
 D_SORTS:Addr
 k_MOST_DEEDS:Tok
 C_Parting:Addr
 C_Program:Addr
 C_Layer:Addr
 f_100:Addr
 e_100:FuncData
 f_101:Addr
 e_101:FuncData
 f_102:Addr
 e_102:FuncData
 f_103:Addr
 e_103:FuncData
 f_104:Addr
 e_104:FuncData
 f_105:Addr
 e_105:FuncData
 f_106:Addr
 e_106:FuncData
 f_107:Addr
 e_107:FuncData
 f_108:Addr
 e_108:FuncData
 f_109:Addr
 e_109:FuncData
 f_110:Addr
 e_110:FuncData
 f_111:Addr
 e_111:FuncData
 f_112:Addr
 e_112:FuncData
 f_113:Addr
 e_113:FuncData
 f_114:Addr
 e_114:FuncData
 f_115:Addr
 e_115:FuncData
 f_116:Addr
 e_116:FuncData
 f_117:Addr
 e_117:FuncData
 f_118:Addr
 e_118:FuncData
 f_119:Addr
 e_119:FuncData
 f_120:Addr
 e_120:FuncData
 f_121:Addr
 e_121:FuncData
 f_122:Addr
 e_122:FuncData
 f_123:Addr
 e_123:FuncData
 f_124:Addr
 e_124:FuncData
 f_125:Addr
 e_125:FuncData
 f_126:Addr
 e_126:FuncData
 f_127:Addr
 e_127:FuncData
 f_128:Addr
 e_128:FuncData
 f_129:Addr
 e_129:FuncData
 f_130:Addr
 e_130:FuncData
 f_131:Addr
 e_131:FuncData
 f_132:Addr
 e_132:FuncData
 f_133:Addr
 e_133:FuncData
 f_134:Addr
 e_134:FuncData
 f_135:Addr
 e_135:FuncData
 f_136:Addr
 e_136:FuncData
 f_137:Addr
 e_137:FuncData
 f_138:Addr
 e_138:FuncData
 f_139:Addr
 e_139:FuncData
 f_140:Addr
 e_140:FuncData
 f_141:Addr
 e_141:FuncData
 f_142:Addr
 e_142:FuncData
 f_143:Addr
 e_143:FuncData
 f_144:Addr
 e_144:FuncData
 f_145:Addr
 e_145:FuncData
 f_146:Addr
 e_146:FuncData
structure Txt(K:W.Frag)(mg:Str->Option Value)(t:Ad):Prop where
 g_SORTS:mg "SORTS"=some (.ref t.D_SORTS)
 k_SORTS:nB K t.pr t.D_SORTS kvs_SORTS
 g_MOST_DEEDS:mg "MOST_DEEDS"=some (.int 8 t.k_MOST_DEEDS)
 c_Parting:KlsAt K mg "Parting" t.C_Parting
 n_Parting_blocks:NoAttr K t.C_Parting "blocks"
 c_Program:KlsAt K mg "Program" t.C_Program
 n_Program_width:NoAttr K t.C_Program "width"
 n_Program_ins:NoAttr K t.C_Program "ins"
 n_Program_boxes:NoAttr K t.C_Program "boxes"
 n_Program_rows:NoAttr K t.C_Program "rows"
 c_Layer:KlsAt K mg "Layer" t.C_Layer
 n_Layer_units:NoAttr K t.C_Layer "units"
 n_Layer_sorts:NoAttr K t.C_Layer "sorts"
 n_Layer_gaps:NoAttr K t.C_Layer "gaps"
 d_100:bv K mg "places_led_to" D9 ["ending"] t.f_100 t.e_100
 d_101:bv K mg "led_anew" Da ["ending","places"] t.f_101 t.e_101
 d_102:bv K mg "fewer_states" Dc ["table"] t.f_102 t.e_102
 d_103:bv K mg "alike_classes" Dd ["table"] t.f_103 t.e_103
 d_104:bv K mg "looks_of" De ["ending"] t.f_104 t.e_104
 d_105:bv K mg "parted_by_ways" Df ["table","classes"] t.f_105 t.e_105
 d_106:bv K mg "numbered" Dg ["marks"] t.f_106 t.e_106
 d_107:bv K mg "led_from_first" Dh ["table"] t.f_107 t.e_107
 d_108:bI K t.C_Program "__init__" "Program.__init__" Di ["self","width","ins","boxes","rows"] t.f_108 t.e_108
 d_109:bv K mg "copied" Dj ["rows"] t.f_109 t.e_109
 d_110:bv K mg "copied_row" Dk ["row"] t.f_110 t.e_110
 d_111:bv K mg "blocks_of" Dl ["program"] t.f_111 t.e_111
 d_112:bI K t.C_Parting "__init__" "Parting.__init__" Dm ["self"] t.f_112 t.e_112
 d_113:bI K t.C_Parting "keep_place" "Parting.keep_place" Dn ["self"] t.f_113 t.e_113
 d_114:bI K t.C_Parting "numbered" "Parting.numbered" Do ["self","block"] t.f_114 t.e_114
 d_115:bI K t.C_Parting "way_to" "Parting.way_to" Dp ["self","block"] t.f_115 t.e_115
 d_116:bI K t.C_Parting "opened" "Parting.opened" Dr ["self","rows","block"] t.f_116 t.e_116
 d_117:bI K t.C_Parting "with_row" "Parting.with_row" Ds ["self","row","block"] t.f_117 t.e_117
 d_118:bI K t.C_Parting "with_if" "Parting.with_if" Dt ["self","row","block"] t.f_118 t.e_118
 d_119:bI K t.C_Parting "with_while" "Parting.with_while" Du ["self","row","block"] t.f_119 t.e_119
 d_120:bv K mg "operands_of" Dv ["deed"] t.f_120 t.e_120
 d_121:bv K mg "boxes_read" Dw ["deed"] t.f_121 t.e_121
 d_122:bv K mg "box_written" Dx ["deed"] t.f_122 t.e_122
 d_123:bv K mg "sort_of" Dy ["deed"] t.f_123 t.e_123
 d_124:bv K mg "gap" Dz ["deeds","j","k"] t.f_124 t.e_124
 d_125:bv K mg "laid" DA ["deeds","units"] t.f_125 t.e_125
 d_126:bI K t.C_Layer "__init__" "Layer.__init__" DB ["self","deeds","units"] t.f_126 t.e_126
 d_127:bI K t.C_Layer "full_beats" "Layer.full_beats" DC ["self","done"] t.f_127 t.e_127
 d_128:bI K t.C_Layer "grown" "Layer.grown" DD ["self","done","beats","place"] t.f_128 t.e_128
 d_129:bI K t.C_Layer "has_room" "Layer.has_room" DE ["self","done","beat","missing"] t.f_129 t.e_129
 d_130:bI K t.C_Layer "fits" "Layer.fits" DF ["self","done","beat","place"] t.f_130 t.e_130
 d_131:bv K mg "table_of" DG ["program","units"] t.f_131 t.e_131
 d_132:bv K mg "beats_of" DH ["block","units"] t.f_132 t.e_132
 d_133:bv K mg "writes" DI ["deeds","name"] t.f_133 t.e_133
 d_134:bv K mg "_law_whole" DJ ["_law_found"] t.f_134 t.e_134
 d_135:bv K mg "_law_mixed" DK ["_law_cell","_law_k"] t.f_135 t.e_135
 d_136:bv K mg "_law_names" DL ["_law_cell"] t.f_136 t.e_136
 d_137:bv K mg "_law_operand" DM ["_law_mixed_here","_law_names_here","_law_width"] t.f_137 t.e_137
 d_138:bv K mg "_law_deed" DN ["_law_mixed_here","_law_names_here","_law_width"] t.f_138 t.e_138
 d_139:bv K mg "_law_into" DO ["_law_stack","_law_row"] t.f_139 t.e_139
 d_140:bv K mg "_law_closed" DP ["_law_stack"] t.f_140 t.e_140
 d_141:bv K mg "_law_program" DQ ["_law_cells","_law_names_here","_law_width","_law_most"] t.f_141 t.e_141
 d_142:bv K mg "_law_led" DR ["_law_ending"] t.f_142 t.e_142
 d_143:bv K mg "_law_reached" DS ["_law_table"] t.f_143 t.e_143
 d_144:bv K mg "_law_parted" DT ["_law_table","_law_some"] t.f_144 t.e_144
 d_145:bv K mg "_law_kept" DU ["_law_table","_law_found","_law_places","_law_some"] t.f_145 t.e_145
 d_146:bv K mg "law" DV ["_law_script"] t.f_146 t.e_146
 z_range:mg "range"=none
 z_isinstance:mg "isinstance"=none
 z_int:mg "int"=none
 z_bool:mg "bool"=none
 z_max:mg "max"=none
 z_enumerate:mg "enumerate"=none
 z_len:mg "len"=none
 z_str:mg "str"=none
 z_list:mg "list"=none
 z_reversed:mg "reversed"=none
 z_tuple:mg "tuple"=none
 z_any:mg "any"=none
 z_zip:mg "zip"=none
 z_sorted:mg "sorted"=none
 z_set:mg "set"=none
theorem y8{K:W.Frag}{pr:Params}{D:Addr}{h0 h1 h2 h3 h4 h5 h6:Int}{t0 u0 t1 u1 t2 u2 t3 u3 t4 u4 t5 u5 t6 u6:Tok}{ep:Nat}(l:K.lookup D=some ⟨.type "dict",none,.dict #[⟨h0,.str "plus" t0,.int 0 u0⟩,⟨h1,.str "less" t1,.int 0 u1⟩,⟨h2,.str "below" t2,.int 1 u2⟩,⟨h3,.str "same" t3,.int 1 u3⟩,⟨h4,.str "and" t4,.int 2 u4⟩,⟨h5,.str "or" t5,.int 2 u5⟩,⟨h6,.str "xor" t6,.int 2 u6⟩] ep,#[]⟩) (s:(D==sysModules)=false) (hD:[h0,h1,h2,h3,h4,h5,h6]=kvs_SORTS.map (fun kv=>EL pr kv.1)):nB K pr D kvs_SORTS:=by simp only [kvs_SORTS,List.map_cons,List.map_nil,List.cons.injEq,and_true] at hD;obtain ⟨e0,e1,e2,e3,e4,e5,e6⟩:=hD;exact zAD _ _ l s Jkk (.cons (zAB Jkl e0 ⟨_,rfl⟩) (.cons (zAB Jkl e1 ⟨_,rfl⟩) (.cons (zAB Jkl e2 ⟨_,rfl⟩) (.cons (zAB Jkl e3 ⟨_,rfl⟩) (.cons (zAB Jkl e4 ⟨_,rfl⟩) (.cons (zAB Jkl e5 ⟨_,rfl⟩) (.cons (zAB Jkl e6 ⟨_,rfl⟩) (.nil))))))))
variable {H:Hp} {u:TS}
def gI(u:TS)(D:cY):L2.St->Hp->Prop:=u D
theorem later{D:cY}{σ:L2.St}(h:u D σ H):gI u D σ H:=h
theorem zm{t:TS}{D:cY}{σ:L2.St}:GU t u D σ H=t {D with nx:=gI u D} σ H:=rfl
theorem zh{t:TS}{D:cY}{σ:L2.St}:CD t u D σ H=∃Mid:L2.St->Hp->Prop,t {D with nx:=Mid} σ H/\∀σ' H',Mid σ' H'->gI u D σ' H':=rfl
theorem FN{c:TT}{t:TS}{D:cY}{σ:L2.St}:GT c t u D σ H=c σ H fun b H1=>if b=true then gI t D σ H1 else gI u D σ H1:=rfl
theorem rB{t:TS}{D:cY}{σ:L2.St}(h:t {D with nx:=fun σ' H'=>σ'=σ/\gI u D σ H'} σ H):CD t u D σ H:=zn _ h (fun σ' H' ⟨e,q⟩=>by rw [e];exact q)
end K80
local macro_rules | `(tactic| simp_arith! [$ts,*])=>`(tactic| simp_arith [-L2.zl,-L2.zg,K80.zm,K80.zh,$ts,*])
local macro_rules | `(tactic| simp_arith only [$ts,*])=>`(tactic| simp_arith [-L2.zl,-L2.D2,-L2.zg,K80.zm,K80.FN,K80.zh,$ts,*])
namespace K80
open PySem L2 PyProof.Rows FA FB FS FP FG FO
def sp_law(K:W.Frag):Sp:=fun vs H Q _=>∃(a:Addr)(ns:List Int),vs=[.ref a]/\SqL K H a (ns.map V.int)/\ns.length<=63/\(∀z∈ns,Builtin.Int.intBits z<=2 ^ 20)/\∀H',Q (.bl true) H'
def pT(K:W.Frag):Sp:=fun vs H Q _=>∃(x:V)(k:String),vs=[x]/\fw K H x k/\Q (.bl (decide (k="int"))) H
section
variable {P:Program} {w:World} {K:W.Frag} {mg:Str->Option Value} {base:Heap} {t:Ad}
theorem yA(T:Txt K mg t):FnOk P w K mg base CX0 1 t.f_134 t.e_134 ["_law_found"] (pT K):=by
 refine T.d_134.F.ok GN ∅ ?_;rintro cdv A outer s H vs Q E hr ⟨x,k,rfl,hk,q⟩;refine ⟨_,
   (XSs.h
   (aj
    (aw (ng (aD eI gl T.z_isinstance boot_isinstance (aa (yqv 0 vl) (aa (eT (v:=.ty "int") gl T.z_int boot_int rfl) ac))) (jo (CN (aD eI gl T.z_isinstance boot_isinstance (aa (yqv 0 vl) (aa (eT (v:=.ty "bool") gl T.z_bool boot_bool rfl) ac))))))))),?_⟩
 rw [show aP _ [x]=[some x] from rfl];rwa [];refine zAO x ("int") k rfl Jkk hk (zn _ rfl (gT (fun e=>zAO x ("bool") k rfl Jkk hk (zn _ rfl ?_)) (fun e=>?_)))
 ·have h:k="int"\/k="bool":=by
   unfold gA at e;rw [ny,ee] at e;rcases e with e | e
   ·exact .inl (by simpa using e)
   ·exact .inr (by simpa using e.1)
  rcases h with rfl | rfl
  ·exact q
  ·exact q
 ·have h:¬k="int":=fun z=>by subst z;exact absurd e Jkk
  rw [bh h] at q;exact q
theorem wG{i:Int}{H:Hp}{Q:VK}{E:XK}:pT K [.int i] H Q E=Q (.bl true) H:=propext ⟨by rintro ⟨_,_,e,k,q⟩;cases e;cases k;exact q,by intro q;exact zAA _ _ rfl .int q⟩
def pP:Sp:=fun vs H Q _=>∃c k:Int,vs=[.int c,.int k]/\Builtin.Int.intBits c<=2 ^ 20/\0<=k/\k<=1000/\Q (.int (dQ c k)) H
theorem jf{c k:Int}{H:Hp}{Q:VK}{E:XK}:pP [.int c,.int k] H Q E=(Builtin.Int.intBits c<=2 ^ 20/\0<=k/\k<=1000/\Q (.int (dQ c k)) H):=propext ⟨by rintro ⟨_,_,e,q⟩;cases e;exact q,by intro q;exact zAE c k rfl q⟩
theorem jT(T:Txt K mg t):FnOk P w K mg base CX0 1 t.f_135 t.e_135 ["_law_cell","_law_k"] pP:=by
 refine T.d_135.F.ok sc_135 ∅ ?_;rintro cdv A outer s H vs Q E hr ⟨c,k,rfl,hb,k0,k1,q⟩;refine ⟨_,
   (XSs.h
   (ai
    (aL (ap Hi (yqv 0 vl) (ay v8 af af) (aA _))
     (aj
      (aw (ay bc (ay ba (ay jq (yqv 0 vl) (ay v8 af af)) (ay nu af (ay ff af (ay bc (yqv 1 vl) af)))) (ay nu af af))))
     aC)
   (ai
    (aq (i:=2) sc_135.nd rfl ll (ay bc (ay ff (ay bW (ay bW (ay bW (ay Ap (yqv 0 vl) (yqv 0 vl)) (ay ff af (yqv 0 vl))) (ay ff af (yqv 1 vl))) af) af) af))
   (aj
    (aw (ay bc (ay bW (ay ff (yqv 2 vl) (yqv 2 vl)) af) af)))))),?_⟩
 rw [show aP _ [V.int c,V.int k]=[some (.int c),some (.int k),none] from rfl];rwa [];unfold dQ at q;have cp:xj 10 40:=zAB Jkm Jkm Jkm
 refine ⟨cp,aU (fun e=>?_) (fun e=>?_)⟩
 ·rw [zq2 e] at q;have m0:0<=k % 60:=gc _ Jkm;have m1:k % 60<60:=kF _ Jkm;refine zBF cp (.inl ⟨Jkm,Jkm⟩) (zAB Jlk Jlk Jkm) (CDivB.pow Jlk) (zAB Jkm Jkm Jkm) Jkm q
 ·rw [zq1 e] at q;have n0:0<=(c * c+3 * c+7919 * k+1) * 48271 % 2147483629:=gc _ Jkm;have n1:(c * c+3 * c+7919 * k+1) * 48271 % 2147483629<2147483629:=kF _ Jkm;refine zAV (BI hb) (.inl ⟨Jkm,Jkm⟩) (.inl ⟨Jkm,Jkm⟩) (.inr ⟨Jkm,Jkm⟩) (.inl ⟨Jlk,Jlk⟩) q
def pQ:Sp:=fun vs H Q _=>∃c:Int,vs=[.int c]/\Builtin.Int.intBits c<=2 ^ 20/\∀p H',Same H H'->H p=none->H' p=some (.lst ((cJ c).map V.str))->Q (.ref p) H'
theorem uA{c:Int}{H:Hp}{Q:VK}{E:XK}:pQ [.int c] H Q E=(Builtin.Int.intBits c<=2 ^ 20/\∀p H',Same H H'->H p=none->H' p=some (.lst ((cJ c).map V.str))->Q (.ref p) H'):=propext ⟨by rintro ⟨_,e,q⟩;cases e;exact q,by intro q;exact zn c rfl q⟩
theorem yu(T:Txt K mg t):FnOk P w K mg base CX0 2 t.f_136 t.e_136 ["_law_cell"] pQ:=by
 have G_135:=@jT P w K mg base t T;refine T.d_136.F.ok sc_136 ∅ ?_;rintro cdv A outer s H vs Q E hr ⟨c,rfl,hb,q⟩;refine ⟨_,
   (XSs.h
   (ai
    (aq (i:=1) sc_136.nd rfl ll aH)
   (ai
    (aq (i:=2) sc_136.nd rfl ll (au T.d_135 G_135 hr.m (aa (yqv 0 vl) (aa af ac)) gl))
   (ai
    (aq (i:=3) sc_136.nd rfl ll (ay bW af (ay bc (yqv 2 vl) af)))
   (ai
    (aq (i:=4) sc_136.nd rfl ll (ay bc (ay ba (yqv 2 vl) af) (yqv 3 vl)))
   (ai
    (aq (i:=5) sc_136.nd rfl ll (aI ac))
   (ai
    (b8 PassesOwn.never rfl (cK gl T.z_range (aa af ac)) (av (i:=6) sc_136.nd rfl ll)
     (ai
      (aq (i:=7) sc_136.nd rfl ll aH)
     (ai
      (b8 PassesOwn.never rfl (cK gl T.z_range (aa (yqv 3 vl) ac)) (av (i:=8) sc_136.nd rfl ll)
       (ai
        (aq (i:=9) sc_136.nd rfl ll (ay bW (ay bW (ay ba (yqv 2 vl) af) (ay ff (yqv 8 vl) (yqv 8 vl))) (ay ff (bL vy gl T.z_int boot_int (aa (cz bu (yqv 8 vl) (yqv 4 vl) (aA _)) ac)) (yqv 6 vl))))
       (aj
        (aq (i:=7) sc_136.nd rfl ll (ay rK (yqv 7 vl) (ak EJ (yqv 1 vl) (ay bc (yqv 9 vl) af)))))))
     (aj
      (aR (c6 PySem.F.plainAttrs_list PySem.F.slot_list_append PySem.F.type_list_append aX (yqv 5 vl) (aa (yqv 7 vl) ac)))))))
   (ai
    (aL (ap bu (ay bc (ay ba (yqv 2 vl) af) af) af (aA _))
     (aj
      (aq (i:=5) sc_136.nd rfl ll (aI (eR Jlm))))
     aC)
   (aj
    (aw (yqv 5 vl))))))))))),?_⟩
 rw [show aP _ [V.int c]=[some (.int c),none,none,none,none,none,none,none,none,none] from rfl];rwa [jf];refine zAF hb Jkm Jkm ?_;unfold cJ at q;have m0:=oV c 3;generalize dQ c 3=m at m0 q ⊢;have z0:0<=m % 6:=gc _ Jkm;have z1:m % 6<6:=kF _ Jkm;have l0:0<=m / 6 % (1+m % 6):=gc _ Jlk;refine ⟨CDivB.small Jkm Jkm,Jlk,fun p0 hp0=>⟨Jkm,Jkm,fO (fun i σ H'=>Same H H'/\H' p0=some (.lst ((nms m i).map V.str))/\∃o6 o7 o8 o9,σ=[some (.int c),some (.str "abcdefghijklmnopqrstuvwxyz"),some (.int m),some (.int (1+m % 6)),some (.int (m / 6 % (1+m % 6))),some (.ref p0),o6,o7,o8,o9])
  (zAB (Same.upd hp0) ae (zBD _ _ _ _ rfl)) ?_ ?_⟩⟩
 ·rintro i σ H' hi ⟨sm,hl,o6,o7,o8,o9,rfl⟩;rwa [];refine ⟨Jlk,Jlk,fO (fun j σ H2=>H2=H'/\∃o8 o9,σ=[some (.int c),some (.str "abcdefghijklmnopqrstuvwxyz"),some (.int m),some (.int (1+m % 6)),some (.int (m / 6 % (1+m % 6))),some (.ref p0),some (.int i),some (.str (nm m (m / 6 % (1+m % 6)) i j)),o8,o9])
   ⟨rfl,zAH _ _ rfl⟩ ?_ ?_⟩
  ·rintro j σ H2 hj ⟨rfl,o8,o9,rfl⟩;rwa [];have hi8:i<8:=hi;have hb1:(if decide ((j:Int)=m / 6 % (1+m % 6))=true then (1:Int) else 0)=0\/(if decide ((j:Int)=m / 6 % (1+m % 6))=true then (1:Int) else 0)=1:=by
    split
    ·exact .inr rfl
    ·exact .inl rfl
   refine zAJ (CDivB.small Jkm Jkm) (.inl ⟨Jlk,by omega +splitNatSub⟩) (.inl ⟨Jlk,Jlk⟩) Jkk (zAC _ (ES _) ?_ (zAH _ _ rfl));rw [yj];show j+1<=sizeLine;rw [b9];omega
  ·rintro σ H2 ⟨rfl,o8,o9,rfl⟩;rwa [];have hi8:i<8:=hi;refine ⟨.inl ⟨rfl,_,SqL.of hl⟩,zAW _ hl ?_ (fun b o e=>?_) ?_ (zBD _ _ _ _ rfl)⟩
   ·rw [zq4];unfold nms;rw [zq4,cX,b9];omega
   ·rw [ao (am e hp0)];exact sm b o e
   ·rw [ae,yk,cq];rfl
 ·rintro σ H' ⟨sm,hl,o6,o7,o8,o9,rfl⟩;rwa [];refine ⟨CDivB.small Jkm Jkm,aU (fun e=>?_) (fun e=>?_)⟩
  ·rw [zq2 e] at q;intro p hp;exact q p _ (sm.trans (Same.upd hp)) (sm.free hp) ae
  ·rw [zq1 e] at q;exact q p0 H' sm hp0 hl
def qP(K:W.Frag)(m:Int)(w:Int)(a:Addr)(H:Hp)(Q:VK):Prop:=∃(ns:List Str),SqL K H a (ns.map V.str)/\0<=w/\w<=8/\Q (mQ m ns w) H
def ko(K:W.Frag):Sp:=fun vs H Q _=>∃(m:Int)(w:Int)(a:Addr),vs=[.int m,.ref a,.int w]/\qP K m w a H Q
theorem rF(T:Txt K mg t):FnOk P w K mg base CX0 1 t.f_137 t.e_137 ["_law_mixed_here","_law_names_here","_law_width"] (ko K):=by
 refine T.d_137.F.ok GO ∅ ?_;rintro cdv A outer s H vs Q E hr ⟨m,w,a,rfl,ns,hS,w0,w8,q⟩;refine ⟨_,
   (XSs.h
   (ai
    (aL (bR (cC (ap iG (ay bc (yqv 0 vl) af) af (aA _)) (ck (ap iG (aD aF gl T.z_len PySem.boot_len (aa (yqv 1 vl) ac)) af (aA _)))))
     (aj
      (aw (ak az (yqv 1 vl) (ay bc (ay ba (yqv 0 vl) af) (aD aF gl T.z_len PySem.boot_len (aa (yqv 1 vl) ac))))))
     aC)
   (aj
    (aw (ay bc (ay ba (yqv 0 vl) af) (ay nu af (yqv 2 vl))))))),?_⟩
 rw [show aP _ [V.int m,V.ref a,V.int w]=[some (.int m),some (.ref a),some (.int w)] from rfl];rwa [];unfold mQ at q;have np:(0:Int)<1 * 2 ^ w.toNat:=by rw [vi];exact Int.pow_pos Jkm
 refine aU (fun e=>?_) (fun e=>?_)
 ·refine zn _ (.inl hS) (aU (fun e2=>?_) (fun e2=>?_))
  ·rw [zq4] at e2;have hn:¬ns=[]:=fun z=>by rw [z] at e2;simp at e2
   rw [zq2 ⟨e,hn⟩] at q;refine ⟨CDivB.small Jkm Jkm,zAC _ (.inl hS) ?_ (zAA _ _ hS ?_ q)⟩
   ·rw [zq4];exact e2
   ·rw [zq4];exact mS hn
  ·rw [zq4] at e2;have hn:ns=[]:=zq66.mp Jlk;rw [zq1 (fun z=>z.2 hn)] at q;exact zAF (CDivB.small Jkm Jkm) (zAB Jlk Jlk Jkm) np q
 ·rw [zq1 (fun z=>e z.1)] at q;exact zAF (CDivB.small Jkm Jkm) (zAB Jlk Jlk Jkm) np q
theorem wC{m w:Int}{a:Addr}{H:Hp}{Q:VK}{E:XK}:ko K [.int m,.ref a,.int w] H Q E=∃ns,SqL K H a (ns.map V.str)/\0<=w/\w<=8/\Q (mQ m ns w) H:=propext ⟨by rintro ⟨_,_,_,e,q⟩;cases e;exact q,fun q=>zAK _ _ _ rfl q⟩
def Bc(K:W.Frag)(m:Int)(w:Int)(a:Addr)(H:Hp)(Q:VK):Prop:=∃(ns:List Str),SqL K H a (ns.map V.str)/\0<=w/\w<=8/\∀p H',Same H H'->H p=none->H' p=some (.tup (oq m ns w))->Q (.ref p) H'
def uG(K:W.Frag):Sp:=fun vs H Q _=>∃(m:Int)(w:Int)(a:Addr),vs=[.int m,.ref a,.int w]/\Bc K m w a H Q
theorem BO(T:Txt K mg t):FnOk P w K mg base CX0 2 t.f_138 t.e_138 ["_law_mixed_here","_law_names_here","_law_width"] (uG K):=by
 have G_137:=@rF P w K mg base t T;refine T.d_138.F.ok sc_138 ∅ ?_;rintro cdv A outer s H vs Q E hr ⟨m,w,a,rfl,ns,hS,w0,w8,q⟩;refine ⟨_,
   (XSs.h
   (ai
    (aq (i:=3) sc_138.nd rfl ll (au T.d_137 G_137 hr.m (aa (ay ba (yqv 0 vl) af) (aa (yqv 1 vl) (aa (yqv 2 vl) ac))) gl))
   (ai
    (aL (bR (dh (ap bu (ay bc (yqv 0 vl) af) af (aA _)) (d7 (ap bu (aD aF gl T.z_len PySem.boot_len (aa (yqv 1 vl) ac)) af (aA _)))))
     (aj
      (aw (aE (aa aH (aa (yqv 3 vl) ac)))))
     aC)
   (ai
    (aq (i:=4) sc_138.nd rfl ll (ak az (yqv 1 vl) (ay bc (ay ba (yqv 0 vl) af) (aD aF gl T.z_len PySem.boot_len (aa (yqv 1 vl) ac)))))
   (ai
    (aL (ap bu (ay bc (yqv 0 vl) af) af (aA _))
     (aj
      (aw (aE (aa aH (aa (yqv 4 vl) (aa (yqv 3 vl) ac))))))
     aC)
   (ai
    (aq (i:=5) sc_138.nd rfl ll (ak az (aI (eR Jlm)) (ay jq (ay bc (yqv 0 vl) af) af)))
   (aj
    (aw (aE (aa (yqv 5 vl) (aa (yqv 4 vl) (aa (yqv 3 vl) (aa (au T.d_137 G_137 hr.m (aa (ay ba (yqv 0 vl) af) (aa (yqv 1 vl) (aa (yqv 2 vl) ac))) gl) ac))))))))))))),?_⟩
 rw [show aP _ [V.int m,V.ref a,V.int w]=[some (.int m),some (.ref a),some (.int w),none,none,none] from rfl];rwa [wC];unfold oq at q;have n0:0<=m % 9:=gc _ Jkm;have n1:m % 9<9:=kF _ Jkm;have cd:∀z,0<z->z<1073741824->CDivB m z:=fun z h1 h2=>CDivB.small h1 h2;refine ⟨cd _ Jkm Jkm,zAG ns hS w0 w8 (aU (fun e=>?_) (fun e=>?_))⟩
 ·rw [zq2 (.inl e)] at q;intro p hp;exact q p _ (Same.upd hp) hp ae
 ·refine zn _ (.inl hS) (aU (fun e2=>?_) (fun e2=>?_))
  ·rw [zq4] at e2;rw [zq2 (.inr (zq66.mp Jlk))] at q;intro p hp;exact q p _ (Same.upd hp) hp ae
  ·rw [zq4] at e2;have hn:¬ns=[]:=fun z=>e2 (by rw [z];rfl);rw [zq1 (fun z=>z.elim e hn)] at q;refine ⟨cd _ Jkm Jkm,zAC _ (.inl hS) ?_ (zAA _ _ hS (by rw [zq4];exact mS hn) (aU (fun e3=>?_) (fun e3=>?_)))⟩
   ·rw [zq4];have:=zq62.mpr hn;omega
   ·rw [zq2 e3] at q;intro p hp;exact q p _ (Same.upd hp) hp ae
   ·rw [zq1 e3] at q;intro p hp;refine zAD _ _ (SqL.of ae) (F9 Jlk Jlk) (cd _ Jkm Jkm) (zAG ns ((Same.upd hp).seq hS) w0 w8 fun p2 hp2=>?_);exact q p2 _ ((Same.upd hp).trans (Same.upd hp2)) ((Same.upd hp).free hp2) ae
theorem rS{m w:Int}{a:Addr}{H:Hp}{Q:VK}{E:XK}:uG K [.int m,.ref a,.int w] H Q E=∃ns,SqL K H a (ns.map V.str)/\0<=w/\w<=8/\∀p H',Same H H'->H p=none->H' p=some (.tup (oq m ns w))->Q (.ref p) H':=propext ⟨by rintro ⟨_,_,_,e,q⟩;cases e;exact q,fun q=>zAK _ _ _ rfl q⟩
def Bd(K:W.Frag)(S:Addr)(y:V)(H:Hp)(Q:VK):Prop:=∃(H0:Hp)(xs:List V)(e:Ent)(es:List Ent)(f:List Addr)(g:List Addr)(r:Stm)(B:Nat),Same H0 H/\H S=some (.lst xs)/\StkV K H xs (e::es) f/\StmV K H y r g/\(S::(f++g)).Nodup/\(∀a∈S::(f++g),H0 a=none)/\
 (∀e'∈e::es,e'.rows.length<=B)/\B<=10000/\∀H',dk K H0 H' S (e.add r::es) (B+1)->Q .non H'
def uK(K:W.Frag):Sp:=fun vs H Q _=>∃(S:Addr)(y:V),vs=[.ref S,y]/\Bd K S y H Q
theorem ue(T:Txt K mg t):FnOk P w K mg base CX0 1 t.f_139 t.e_139 ["_law_stack","_law_row"] (uK K):=by
 refine T.d_139.F.ok GP ∅ ?_;rintro cdv A outer s H vs Q E hr ⟨S,y,rfl,H0,xs,e,es,f,g,r,B,sm,hS,hK,hy,nd,fr0,few,hB,q⟩;refine ⟨_,
   (XSs.h
   (aj
    (aR (c6 PySem.F.plainAttrs_list PySem.F.slot_list_append PySem.F.type_list_append aX (ak ar (ak az (yqv 0 vl) (kB ii af)) af) (aa (yqv 1 vl) ac))))),?_⟩
 rw [show aP _ [V.ref S,y]=[some (.ref S),some y] from rfl];obtain ⟨xs',x,f',g',rfl,rfl,h1,h2⟩:=hK.inv;obtain ⟨qq,a,o,ys,zs,fa,fo,rfl,hq,ha,hr1,ho,hr2,rfl⟩:=h2;rwa [];refine zAA _ _ (SqL.of hS) fA ?_;rwa [];refine zAD _ _ hq rfl (.inl ⟨rfl,_,SqL.of ha⟩) ?_;rwa [];have ly:=hr1.length;have lB:=few e Jll;have nd':(S::((a::o::((fa++g)++fo))++f')).Nodup:=by
  refine (List.Perm.nodup_iff ?_).mp nd;refine .cons _ (.cons _ (.cons _ ?_));show ((fa++fo)++f'++g).Perm ((fa++g++fo)++f');have e1:(fa++fo)++f'++g=fa++((fo++f')++g):=by simp only [List.append_assoc]
  have e2:(fa++g++fo)++f'=fa++(g++(fo++f')):=by simp only [List.append_assoc]
  rw [e1,e2];exact List.Perm.append_left fa AJ
 have mem':∀b,b∈S::((a::o::((fa++g)++fo))++f')->b∈S::((a::o::(fa++fo))++f'++g):=fun b hb=>by simp only [List.mem_cons,List.mem_append] at hb ⊢;rcases hb with z | (z | z | (z | z) | z) | z<;>simp [z]
 have nS:¬S=a:=fun z=>by subst z;simp at nd
 have na:a∉(o::((fa++g)++fo))++f':=(zq42.mp (zq42.mp nd').2).1;have naf:a∉f':=fun z=>na (cW _ z);have nao:¬o=a:=fun z=>na (by rw [<- z];simp);have nafa:a∉fa:=fun z=>na (by simp [z]);have nag:a∉g:=fun z=>na (by simp [z]);have nafo:a∉fo:=fun z=>na (by simp [z]);have tt:TSame H (upd H a (.lst (ys++[y]))):=TSame.updL ha;refine zAC ys ha (by rw [b9];omega) (q _ ⟨sm.updM (fr0 a Jll),zAD (xs'++[.ref qq]) _ (by rw [ao nS];exact hS) (.snoc (h1.keep tt (Kept.upd naf)) (zBE qq a o (ys++[y]) zs (fa++g) fo rfl (tt.seqT hq) ae ((hr1.keep tt (Kept.upd nafa)).snoc (hy.keep tt (Kept.upd nag))) (by rw [ao nao];exact ho) (hr2.keep tt (Kept.upd nafo)) rfl)) nd' fun b hb=>fr0 b (mem' b hb),fun e' he'=>?_⟩);rcases zq11.mp he' with z | z
 ·subst z;show (e.rows++[r]).length<=B+1;simp;omega
 ·have:=few e' (b7 _ z);omega
def vw(K:W.Frag)(S:Addr)(H:Hp)(Q:VK):Prop:=∃(H0:Hp)(e:Ent)(e2:Ent)(es:List Ent)(B:Nat),dk K H0 H S (e::e2::es) B/\B<=10000/\∀H',dk K H0 H' S (eV (e::e2::es)) (B+1)->Q .non H'
def m6(K:W.Frag):Sp:=fun vs H Q _=>∃(S:Addr),vs=[.ref S]/\vw K S H Q
theorem iB{S:Addr}{y:V}{H:Hp}{Q:VK}{E:XK}:uK K [.ref S,y] H Q E=∃(H0:Hp)(xs:List V)(e:Ent)(es:List Ent)(f g:List Addr)(r:Stm)(B:Nat),Same H0 H/\H S=some (.lst xs)/\StkV K H xs (e::es) f/\StmV K H y r g/\(S::(f++g)).Nodup/\(∀a∈S::(f++g),H0 a=none)/\
 (∀e'∈e::es,e'.rows.length<=B)/\B<=10000/\∀H',dk K H0 H' S (e.add r::es) (B+1)->Q .non H':=propext ⟨by rintro ⟨_,_,e,q⟩;cases e;exact q,fun q=>zAE _ _ rfl q⟩
theorem wg(T:Txt K mg t):FnOk P w K mg base CX0 2 t.f_140 t.e_140 ["_law_stack"] (m6 K):=by
 have G_139:=@ue P w K mg base t T;refine T.d_140.F.ok sc_140 ∅ (fun cdv A outer s H vs Q E hr h=>?_);obtain ⟨S,rfl,H0,e,e2,es,B,⟨sm,⟨xs,f,hS,hK,nd,fr0⟩,few⟩,hB,q⟩:=h;refine ⟨_,
   (XSs.h
   (ai
    (fZ (jn PySem.F.plainAttrs_list PySem.F.slot_list_pop PySem.F.type_list_pop rC (yqv 0 vl)) (dG rfl (aT (av (i:=1) sc_140.nd rfl ll) (aT (av (i:=2) sc_140.nd rfl ll) (aT (av (i:=3) sc_140.nd rfl ll) (aT (av (i:=4) sc_140.nd rfl ll) cU))))))
   (aj
    (aL (ap bu (yqv 1 vl) aH (aA _))
     (aj
      (aR (au T.d_139 G_139 hr.m (aa (yqv 0 vl) (aa (aE (aa aH (aa (yqv 3 vl) (aa (yqv 2 vl) ac)))) ac)) gl)))
     (aj
      (aL (ap bu (yqv 1 vl) aH (aA _))
       (aj
        (aR (au T.d_139 G_139 hr.m (aa (yqv 0 vl) (aa (aE (aa aH (aa (yqv 3 vl) (aa (yqv 2 vl) (aa (aI ac) ac))))) ac)) gl)))
       (aj
        (aR (au T.d_139 G_139 hr.m (aa (yqv 0 vl) (aa (aE (aa aH (aa (yqv 3 vl) (aa (yqv 4 vl) (aa (yqv 2 vl) ac))))) ac)) gl))))))))),?_⟩
 rw [show aP _ [V.ref S]=[some (.ref S),none,none,none,none] from rfl];obtain ⟨xs',x,f',g',rfl,rfl,h1,h2⟩:=hK.inv;obtain ⟨qq,a,o,ys,zs,fa,fo,rfl,hq,ha,hr1,ho,hr2,rfl⟩:=h2;rwa [iB];refine ⟨.inl ⟨rfl,_,SqL.of hS⟩,zAA _ (.ref qq) hS Jll ?_⟩;rwa [iB];have tS:∀o',TSame H (upd H S o'):=fun o'=>TSame.updL hS;have nS:S∉(a::o::(fa++fo))++f':=(zq42.mp nd).1;have ndf:=(zq42.mp nd).2;have nSf:S∉f':=fun z=>nS (cW _ z);have nSa:¬a=S:=fun z=>nS (by rw [z];simp);have nSo:¬o=S:=fun z=>nS (by rw [z];simp);have nSfa:S∉fa:=fun z=>nS (by simp [z]);have nSfo:S∉fo:=fun z=>nS (by simp [z]);have edl:(xs'++[V.ref qq]).dropLast=xs':=by simp
 rw [edl];have tt:=tS (.lst xs');have s1:Same H0 (upd H S (.lst xs')):=sm.updM (fr0 S Jll);have k1:=h1.keep tt (Kept.upd nSf);have r1:=hr1.keep tt (Kept.upd nSfa);have r2:=hr2.keep tt (Kept.upd nSfo);have ha1:upd H S (.lst xs') a=some (.lst ys):=by rw [ao nSa];exact ha
 have ho1:upd H S (.lst xs') o=some (.lst zs):=by rw [ao nSo];exact ho
 have few':∀e'∈e2::es,e'.rows.length<=B:=fun e' he=>few e' (b7 _ he);have q':∀H',dk K H0 H' S (e2.add (cx e)::es) (B+1)->Q .non H':=q;have sub:∀(g:List Addr),(∀b∈g,b∈a::o::(fa++fo))->∀b∈S::(f'++g),b∈S::((a::o::(fa++fo))++f'):=fun g hg b hb=>by
  rcases zq11.mp hb with z | z
  ·rw [z];simp
  ·rcases zq20.mp z with z | z
   ·exact b7 _ (cW _ z)
   ·exact b7 _ (fk _ (hg b z))
 have nds:∀(g:List Addr),g.Sublist (a::o::(fa++fo))->(S::(f'++g)).Nodup:=fun g hg=>by
  have h3:(g++f').Nodup:=ndf.sublist (List.Sublist.append hg (List.Sublist.refl _));have h4:(f'++g).Nodup:=(List.Perm.nodup_iff AJ).mp h3;refine zq42.mpr ⟨fun z=>?_,h4⟩;rcases zq20.mp z with z | z
  ·exact nSf z
  ·exact nS (fk _ (hg.subset z))
 refine zAC _ (tt.seqT hq) rfl ?_;rwa [iB];have dW:cx e=.ifs e.name e.ones e.rows->∀p,upd H S (.lst xs') p=none->∃(H0_1:Hp)(xs:List V)(e_1:Ent)(es_1:List Ent)(f g:List Addr)(r:Stm)(B_1:Nat),Same H0_1 (upd (upd H S (.lst xs')) p (.tup [V.str "if",V.str e.name,V.ref o,V.ref a]))/\upd (upd H S (.lst xs')) p (.tup [V.str "if",V.str e.name,V.ref o,V.ref a]) S=some (.lst xs)/\
   StkV K (upd (upd H S (.lst xs')) p (.tup [V.str "if",V.str e.name,V.ref o,V.ref a])) xs (e_1::es_1) f/\StmV K (upd (upd H S (.lst xs')) p (.tup [V.str "if",V.str e.name,V.ref o,V.ref a])) (.ref p) r g/\(S::(f++g)).Nodup/\(∀b∈S::(f++g),H0_1 b=none)/\(∀e'∈e_1::es_1,e'.rows.length<=B_1)/\B_1<=10000/\
   ∀H',dk K H0_1 H' S (e_1.add r::es_1) (B_1+1)->Q .non H':=by
  intro hcl p hp;have s2:=Same.upd (o:=.tup [V.str "if",V.str e.name,V.ref o,V.ref a]) hp;rw [hcl] at q';have pm:(o::a::(fo++fa)).Perm (a::o::(fa++fo)):=(List.Perm.swap a o _).trans (.cons _ (.cons _ AJ));refine zAR H0 xs' e2 es f' (o::a::(fo++fa)) (.ifs e.name e.ones e.rows) B (zBC (s1.trans s2) (s2 _ _ ae) (k1.keep s2.ts (Kept.of s2)) (.ifs (SqT.of ae) (s2 _ _ ho1) (s2 _ _ ha1) (r2.same s2) (r1.same s2)) ?_ (fun b hb=>fr0 b (sub _ (fun b hb=>pm.mem_iff.mp hb) b hb)) few' hB q');refine (List.Perm.nodup_iff (.cons _ ?_)).mp (nds _ (List.Sublist.refl _));exact List.Perm.append_left _ pm.symm
 cases hkd:e.kind with
 |whl=>
  refine aU (fun _=>fun p hp=>?_) (fun z=>absurd rfl z);have s2:=Same.upd (o:=.tup [V.str "while",V.str e.name,V.ref a]) hp;have hcl:cx e=.whl e.name e.rows:=by unfold cx;rw [hkd]
  rw [hcl] at q';refine zAR H0 xs' e2 es f' (a::fa) (.whl e.name e.rows) B (zBC (s1.trans s2) (s2 _ _ ae) (k1.keep s2.ts (Kept.of s2)) (.whl (SqT.of ae) (s2 _ _ ha1) (r1.same s2)) (nds _ ?_) (fun b hb=>fr0 b (sub _ ?_ b hb)) few' hB q')
  ·exact .cons_cons _ (.cons _ (qt _ _))
  ·intro b hb;simp at hb ⊢;rcases hb with z | z<;>simp [z]
 |iff=>
  refine aU (fun z=>absurd z Jkk) (fun _=>aU (fun _=>fun p hp p2 hp2=>?_) (fun z=>absurd rfl z));have s2:=Same.upd (o:=.lst []) hp;have s3:=Same.upd (o:=.tup [V.str "if",V.str e.name,V.ref a,V.ref p]) hp2;have s23:=s2.trans s3;have hcl:cx e=.ifs e.name e.rows []:=by unfold cx;rw [hkd]
  rw [hcl] at q';have np:∀b,b∈S::((a::o::(fa++fo))++f')->¬p=b:=fun b hb z=>by
   have ex:∃u,upd H S (.lst xs') b=some u:=by
    rcases zq11.mp hb with y | y
    ·exact ⟨_,by rw [y];exact ae⟩
    rcases zq20.mp y with y | y
    ·rcases zq11.mp y with y | y
     ·exact ⟨_,by rw [y];exact ha1⟩
     rcases zq11.mp y with y | y
     ·exact ⟨_,by rw [y];exact ho1⟩
     rcases zq20.mp y with y | y
     ·obtain ⟨_,h⟩:=r1.tracked b y;exact ⟨_,h⟩
     ·obtain ⟨_,h⟩:=r2.tracked b y;exact ⟨_,h⟩
    ·obtain ⟨_,h⟩:=k1.tracked b y;exact ⟨_,h⟩
   obtain ⟨u,hu⟩:=ex;exact am hu hp z.symm
  have sa:∀b∈S::(f'++(a::fa)),b∈S::((a::o::(fa++fo))++f'):=sub _ (fun b hb=>by simp at hb ⊢;rcases hb with z | z<;>simp [z]);refine ⟨H0,xs',e2,es,f',a::p::(fa++[]),.ifs e.name e.rows [],B,s1.trans s23,s23 _ _ ae,k1.keep s23.ts (Kept.of s23),.ifs (SqT.of ae) (s23 _ _ ha1) (s3 _ _ ae) (r1.same s23) .nil,?_,fun b hb=>?_,few',hB,q'⟩
  ·have h5:(p::(S::(f'++(a::fa)))).Nodup:=zq42.mpr ⟨fun z=>np p (sa p z) rfl,nds _ (.cons_cons _ (.cons _ (qt _ _)))⟩;refine (List.Perm.nodup_iff ?_).mp h5;rw [g9];refine (List.Perm.swap S p _).trans (.cons _ ?_);have e1:f'++a::p::fa=(f'++[a])++p::fa:=by simp
   have e2:f'++a::fa=(f'++[a])++fa:=by simp
   rw [e1,e2];exact List.perm_middle.symm
  ·by_cases hbp:b=p
   ·rw [hbp];exact s1.free hp
   ·refine fr0 b (sa b ?_);simp at hb ⊢;rcases hb with z | z | z | z | z
    ·exact .inl z
    ·exact .inr (.inl z)
    ·exact .inr (.inr (.inl z))
    ·exact absurd z hbp
    ·exact .inr (.inr (.inr z))
 |all=>
  refine aU (fun z=>absurd z Jkk) (fun _=>aU (fun z=>absurd z Jkk) (fun _=>fun p hp=>?_));exact dW (by unfold cx;rw [hkd]) p hp
 |els=>refine aU (fun z=>absurd z Jkk) (fun _=>aU (fun z=>absurd z Jkk) (fun _=>fun p hp=>?_));exact dW (by unfold cx;rw [hkd]) p hp
def qQ(K:W.Frag)(a:Addr)(b:Addr)(w:Int)(most:Int)(H:Hp)(Q:VK):Prop:=∃(cs:List Int)(ns:List Str),SqL K H a (cs.map V.int)/\cs.length<=63/\(∀z∈cs,Builtin.Int.intBits z<=2 ^ 20)/\SqL K H b (ns.map V.str)/\0<=w/\w<=8/\
 ∀p xs f H',Same H H'->H' p=some (.lst xs)->StmsV K H' xs (dU cs ns w most) f->(p::f).Nodup->(∀c∈p::f,H c=none)->Q (.ref p) H'
def kr(K:W.Frag):Sp:=fun vs H Q _=>∃(a:Addr)(b:Addr)(w:Int)(most:Int),vs=[.ref a,.ref b,.int w,.int most]/\qQ K a b w most H Q
theorem i3{S:Addr}{H:Hp}{Q:VK}{E:XK}:m6 K [.ref S] H Q E=∃(H0:Hp)(e e2:Ent)(es:List Ent)(B:Nat),dk K H0 H S (e::e2::es) B/\B<=10000/\∀H',dk K H0 H' S (eV (e::e2::es)) (B+1)->Q .non H':=propext ⟨by rintro ⟨_,e,q⟩;cases e;exact q,fun q=>zn _ rfl q⟩
theorem rG(T:Txt K mg t):FnOk P w K mg base CX0 4 t.f_141 t.e_141 ["_law_cells","_law_names_here","_law_width","_law_most"] (kr K):=by
 have G_135:=@jT P w K mg base t T;have G_138:=@BO P w K mg base t T;have G_139:=@ue P w K mg base t T;have G_140:=@wg P w K mg base t T;refine T.d_141.F.ok sc_141 ∅ ?_;rintro cdv A outer s H vs Q E hr ⟨a,b,w,most,rfl,cs,ns,hA,lcs,bcs,hB,w0,w8,q⟩;refine ⟨_,
   (XSs.h
   (ai
    (aq (i:=4) sc_141.nd rfl ll (aI (aa (aE (aa aH (aa (aI ac) (aa aH (aa (aI ac) ac))))) ac)))
   (ai
    (aq (i:=5) sc_141.nd rfl ll af)
   (bo
    (b8 PassesOwn.never rfl (ql T.z_enumerate (aa (yqv 0 vl) ac) gl) (dG rfl (aT (av (i:=6) sc_141.nd rfl ll) (aT (av (i:=7) sc_141.nd rfl ll) cU)))
     (ai
      (aq (i:=8) sc_141.nd rfl ll (au T.d_135 G_135 hr.m (aa (yqv 7 vl) (aa (yqv 6 vl) ac)) gl))
     (ai
      (aq (i:=9) sc_141.nd rfl ll (ay bc (yqv 8 vl) af))
     (aj
      (aL (bR (cC (ap iH (yqv 9 vl) af (aA _)) (ck (ap iG (aD aF gl T.z_len PySem.boot_len (aa (yqv 4 vl) ac)) af (aA _)))))
       (aj
        (aL (bR (cC (ap bu (yqv 9 vl) af (aA _)) (ck (ap bu (ak ar (ak az (yqv 4 vl) (kB ii af)) af) aH (aA _)))))
         (ai
          (fZ (jn PySem.F.plainAttrs_list PySem.F.slot_list_pop PySem.F.type_list_pop rC (yqv 4 vl)) (dG rfl (aT (av (i:=10) sc_141.nd rfl ll) (aT (av (i:=11) sc_141.nd rfl ll) (aT (av (i:=12) sc_141.nd rfl ll) (aT (av (i:=13) sc_141.nd rfl ll) cU))))))
         (aj
          (aR (c6 PySem.F.plainAttrs_list PySem.F.slot_list_append PySem.F.type_list_append aX (yqv 4 vl) (aa (aE (aa aH (aa (aI ac) (aa (yqv 12 vl) (aa (yqv 11 vl) ac))))) ac)))))
         (aj
          (aR (au T.d_140 G_140 hr.m (aa (yqv 4 vl) ac) gl)))))
       (aj
        (aL (ap iH (yqv 5 vl) (yqv 3 vl) (aA _))
         (ai
          (aq (i:=5) sc_141.nd rfl ll (ay bW (yqv 5 vl) af))
         (aj
          (aL (bR (cC (ap iH (yqv 9 vl) af (aA _)) (cC (ap iH (aD aF gl T.z_len PySem.boot_len (aa (yqv 4 vl) ac)) af (aA _)) (ck (ap iG (aD aF gl T.z_len PySem.boot_len (aa (yqv 1 vl) ac)) af (aA _))))))
           (aj
            (aR (c6 PySem.F.plainAttrs_list PySem.F.slot_list_append PySem.F.type_list_append aX (yqv 4 vl) (aa (aE (aa (ak az (aI (eR Jlm)) (ay jq (yqv 9 vl) af)) (aa (aI ac) (aa (ak az (yqv 1 vl) (ay bc (ay ba (yqv 8 vl) af) (aD aF gl T.z_len PySem.boot_len (aa (yqv 1 vl) ac)))) (aa (aI ac) ac))))) ac))))
           (aj
            (aR (au T.d_139 G_139 hr.m (aa (yqv 4 vl) (aa (au T.d_138 G_138 hr.m (aa (ay ba (yqv 8 vl) af) (aa (yqv 1 vl) (aa (yqv 2 vl) ac))) gl) ac)) gl))))))
         aC)))))))
   (ai
    (dJ PassesOwn.never (ap iG (aD aF gl T.z_len PySem.boot_len (aa (yqv 4 vl) ac)) af (aA _))
     (aj
      (aR (au T.d_140 G_140 hr.m (aa (yqv 4 vl) ac) gl))))
   (aj
    (aw (ak ar (ak az (yqv 4 vl) af) af)))))))),?_⟩
 rw [show aP _ [V.ref a,V.ref b,V.int w,V.int most]=[some (.ref a),some (.ref b),some (.int w),some (.int most),none,none,none,none,none,none,none,none,none,none] from rfl];rwa [jf,rS,iB,i3];intro p1 hp1 p2 hp2 p3 hp3 S hS;have s1:Same H (upd H p1 (.lst [])):=Same.upd hp1;have s2:=s1.updN (o:=.lst []) hp2;have s3:=s2.updN (o:=.tup [V.str "all",V.ref p1,V.str "",V.ref p2]) hp3;have s4:=s3.updN (o:=.lst [V.ref p3]) hS;refine ⟨fun σ H'=>(∃B,B<=63/\dk K H H' S (bE ns w most cs 0 start0).1 B/\1<=(bE ns w most cs 0 start0).1.length/\(bE ns w most cs 0 start0).1.length<=9)/\∃o5 o6 o7 o8 o9 o10 o11 o12 o13,σ=[some (.ref a),some (.ref b),some (.int w),some (.int most),some (.ref S),o5,o6,o7,o8,o9,o10,o11,o12,o13],⟨⟨_,s4.seq hA⟩,?_⟩,?_⟩
 ·obtain ⟨Pv,hPv⟩:∃Pv:Nat->L2.St->Hp->Prop,Pv=fun i σ H'=>(dk K H H' S (bE ns w most (cs.take i) 0 start0).1 i/\1<=(bE ns w most (cs.take i) 0 start0).1.length/\(bE ns w most (cs.take i) 0 start0).1.length<=9)/\∃o6 o7 o8 o9 o10 o11 o12 o13,σ=[some (.ref a),some (.ref b),some (.int w),some (.int most),some (.ref S),some (.int (bE ns w most (cs.take i) 0 start0).2),o6,o7,o8,o9,o10,o11,o12,o13]:=⟨_,rfl⟩
  have hI:∀i σ H',((dk K H H' S (bE ns w most (cs.take i) 0 start0).1 i/\1<=(bE ns w most (cs.take i) 0 start0).1.length/\(bE ns w most (cs.take i) 0 start0).1.length<=9)/\∃o6 o7 o8 o9 o10 o11 o12 o13,σ=[some (.ref a),some (.ref b),some (.int w),some (.int most),some (.ref S),some (.int (bE ns w most (cs.take i) 0 start0).2),o6,o7,o8,o9,o10,o11,o12,o13])->Pv i σ H':=by rw [hPv];exact fun _ _ _ h=>h
  have hE:∀i σ H',Pv i σ H'->(dk K H H' S (bE ns w most (cs.take i) 0 start0).1 i/\1<=(bE ns w most (cs.take i) 0 start0).1.length/\(bE ns w most (cs.take i) 0 start0).1.length<=9)/\∃o6 o7 o8 o9 o10 o11 o12 o13,σ=[some (.ref a),some (.ref b),some (.int w),some (.int most),some (.ref S),some (.int (bE ns w most (cs.take i) 0 start0).2),o6,o7,o8,o9,o10,o11,o12,o13]:=by rw [hPv];exact fun _ _ _ h=>h
  clear hPv;refine tR (xs:=cs.map V.int) Pv (hI _ _ _ ?_) (fun i σ H' _ h=>(hE _ _ _ h).1.1.same.seq hA) ?_ ?_
  ·have hp1':upd (upd (upd (upd H p1 (.lst [])) p2 (.lst [])) p3 (.tup [V.str "all",V.ref p1,V.str "",V.ref p2])) S (.lst [V.ref p3]) p1=some (.lst []):=Same.upd hS _ _ (Same.upd hp3 _ _ (Same.upd hp2 _ _ ae));have hp2':upd (upd (upd (upd H p1 (.lst [])) p2 (.lst [])) p3 (.tup [V.str "all",V.ref p1,V.str "",V.ref p2])) S (.lst [V.ref p3]) p2=some (.lst []):=Same.upd hS _ _ (Same.upd hp3 _ _ ae);have hp3':upd (upd (upd (upd H p1 (.lst [])) p2 (.lst [])) p3 (.tup [V.str "all",V.ref p1,V.str "",V.ref p2])) S (.lst [V.ref p3]) p3=some (.tup [V.str "all",V.ref p1,V.str "",V.ref p2]):=Same.upd hS _ _ ae;have n1:¬p1=p2:=fun z=>by rw [z] at hp2;exact absurd hp2 (by rw [ae];exact fun z=>nomatch z)
   have n2:¬p1=S:=fun z=>by rw [<- z] at hS;rw [Same.upd hp3 _ _ (Same.upd hp2 _ _ ae)] at hS;cases hS
   have n3:¬p2=S:=fun z=>by rw [<- z] at hS;rw [Same.upd hp3 _ _ ae] at hS;cases hS
   refine ⟨zAB ⟨s4,zAD ([.ref p3]) ((p1::p2::([]++[]))++[]) ae (StkV.snoc (xs:=[]) .nil (zBE p3 p1 p2 ([]) ([]) ([]) ([]) rfl (SqT.of hp3') hp1' .nil hp2' .nil rfl)) ?_ fun c hc=>?_,fun e he=>?_⟩ (by simp [bE,start0]) (by simp [bE,start0]),zAR _ _ _ _ _ _ _ _ rfl⟩
   ·simp only [List.nodup_cons,List.append_nil,List.cons_append,List.nil_append,List.mem_cons,List.not_mem_nil,or_false,not_or];exact zAB ⟨fun z=>n2 z.symm,fun z=>n3 z.symm⟩ n1 Jll
   ·simp at hc;rcases hc with z | z | z
    ·rw [z];exact s3.free hS
    ·rw [z];exact hp1
    ·rw [z];exact s1.free hp2
   ·have:e=⟨.all,[],"",[]⟩:=by simpa [bE,start0] using he
    rw [this];exact bT _
  ·intro i x σ H' pp hx hpp hv;obtain ⟨⟨⟨sm,⟨xs,f,hSx,hK,nd,fr⟩,few⟩,l1,l9⟩,o6,o7,o8,o9,o10,o11,o12,o13,rfl⟩:=hE _ _ _ hv;clear hv;rw [bq] at hx;obtain ⟨c,hc,rfl⟩:=zq47.mp hx;obtain ⟨hi,hce⟩:=zq7.mp hc;have enx:bE ns w most (cs.take (i+1)) 0 start0=cy ns w most i c (bE ns w most (cs.take i) 0 start0):=by rw [df hi,hce,kc,dY,AK,sM Jlk]
   have hN:∀σ H',((dk K H H' S (cy ns w most i c (bE ns w most (cs.take i) 0 start0)).1 (i+1)/\1<=(cy ns w most i c (bE ns w most (cs.take i) 0 start0)).1.length/\(cy ns w most i c (bE ns w most (cs.take i) 0 start0)).1.length<=9)/\∃o6 o7 o8 o9 o10 o11 o12 o13,σ=[some (.ref a),some (.ref b),some (.int w),some (.int most),some (.ref S),some (.int (cy ns w most i c (bE ns w most (cs.take i) 0 start0)).2),o6,o7,o8,o9,o10,o11,o12,o13])->Pv (i+1) σ H':=fun σ H' h=>hI _ _ _ (by rw [enx];exact h);clear hI hE enx;generalize bE ns w most (cs.take i) 0 start0=st at hK few l1 l9 hN ⊢;obtain ⟨es,many⟩:=st;rwa [jf,rS,iB,i3];refine zAC _ (SqT.of ae) rfl ?_;rwa [jf,rS,iB,i3];refine zAF (bcs c (bg hc)) Jlk Jlk ?_;have s5:Same H' (upd H' pp (.tup [V.int i,V.int c])):=Same.upd hpp;have sm5:=sm.trans s5;have hS5:=s5 _ _ hSx;have hK5:=hK.keep s5.ts (Kept.of s5);have hB5:=sm5.seq hB;generalize upd H' pp (.tup [V.int i,V.int c])=H5 at s5 sm5 hS5 hK5 hB5 ⊢;clear hSx hK;have lx:=hK5.length;have g0:=oV c i;unfold cy at hN;generalize dQ c i=g at g0 hN ⊢;have y0:0<=g % 12:=gc _ Jkm;have y1:g % 12<12:=kF _ Jkm;have trk:∀c'∈S::f,∃u,H5 c'=some u:=fun c' hc'=>by
    rcases zq11.mp hc' with z | z
    ·exact ⟨_,by rw [z];exact hS5⟩
    ·obtain ⟨u,hu⟩:=hK5.tracked c' z;exact ⟨_,hu⟩
   dsimp only at l1 l9 few lx hN;refine Ep (SqL.of hS5) (fun e1 c2=>?_) (fun e1=>?_)
   ·have c1:g % 12<2/\1<es.length:=⟨e1,Jlk⟩
    rw [zq2 c1] at hN;obtain ⟨e,e2,es',rfl⟩:∃e e2 es',es=e::e2::es':=by
     match es,c1.2 with
     |e::e2::es',_=>exact zAL e e2 es' rfl
    obtain ⟨xs',x,f',g',rfl,rfl,h1,h2⟩:=hK5.inv;obtain ⟨qq,ra,oo,ys,zs,fa,fo,rfl,hq,ha,hr1,ho,hr2,rfl⟩:=id h2;refine xq (SqL.of hS5) hq (fun e3 e4=>?_) (fun e3=>?_)
    ·dsimp only at hN;rw [zq2 ⟨e3,e4⟩] at hN;refine ⟨.inl ⟨rfl,_,SqL.of hS5⟩,zAA _ (.ref qq) hS5 Jll ?_⟩;rwa [];have edl:(xs'++[V.ref qq]).dropLast=xs':=by simp
     rw [edl];have tt:TSame H5 (upd H5 S (.lst xs')):=TSame.updL hS5;have nS:S∉(ra::oo::(fa++fo))++f':=(zq42.mp nd).1;refine zAC _ (tt.seqT hq) rfl ?_;rwa [];refine ⟨.inl ⟨rfl,_,SqL.of ae⟩,fun u1 hu1 u2 hu2=>?_⟩;have sB:Same H (upd H5 S (.lst xs')):=sm5.updM (fr S Jll);have nSa:¬ra=S:=fun z=>nS (by rw [z];simp);have nSfa:S∉fa:=fun z=>nS (by simp [z]);have nSf:S∉f':=fun z=>nS (by simp [z]);have ha1:upd H5 S (.lst xs') ra=some (.lst ys):=by rw [ao nSa];exact ha
     have k1:=h1.keep tt (Kept.upd (o:=.lst xs') nSf);have r1:=hr1.keep tt (Kept.upd (o:=.lst xs') nSfa);have t1:=Same.upd (o:=.lst []) hu1;have t2:=t1.updN (o:=.tup [V.str "else",V.ref u1,V.str e.name,V.ref ra]) hu2;have nd3:(S::((ra::fa)++f')).Nodup:=by refine nd.sublist (.cons_cons _ (List.Sublist.append (.cons_cons _ (.cons _ (qt _ _))) (List.Sublist.refl _)))
     have sub3:∀c'∈S::((ra::fa)++f'),c'∈S::((ra::oo::(fa++fo))++f'):=fun c' hc'=>by simp only [List.cons_append,List.mem_cons,List.mem_append] at hc' ⊢;rcases hc' with z | z | z | z<;>simp [z]
     have no1:u1∉S::((ra::fa)++f'):=fun z=>by
      have ex:∃u,upd H5 S (.lst xs') u1=some u:=by
       by_cases zS:u1=S
       ·exact ⟨_,by rw [zS];exact ae⟩
       ·obtain ⟨u,hu⟩:=trk u1 (sub3 u1 z);exact ⟨u,by rw [ao zS];exact hu⟩
      obtain ⟨u,hu⟩:=ex;rw [hu1] at hu;cases hu
     refine zAC xs' (t2 _ _ ae) (by simp at lx l9;rw [b9];omega) (hN _ _ ⟨zAB (ul (fo:=fa) (sB.trans t2) (t2 _ _ ae) (k1.keep t2.ts (Kept.of t2)) (Same.upd hu2 _ _ ae) (t2 _ _ ha1) (r1.same t2) (SqT.of ae) ?_ (fun c' hc'=>?_) (fun e' he'=>by have:=few e' (b7 _ he');omega)) Jll (by simpa using l9),zAR _ _ _ _ _ _ _ _ rfl⟩)
     ·have n4:(u1::S::((ra::fa)++f')).Nodup:=zq42.mpr ⟨no1,nd3⟩;exact (List.Perm.nodup_iff (List.Perm.swap S u1 _)).mp n4
     ·by_cases z1:c'=u1
      ·rw [z1];exact sB.free hu1
      ·refine fr c' (sub3 c' ?_);simp only [List.cons_append,List.mem_cons] at hc' ⊢;rcases hc' with z | z | z
       ·exact .inl z
       ·exact absurd z z1
       ·exact .inr z
    ·dsimp only at hN;rw [zq1 e3] at hN;refine zAX H e e2 es' i (zAB ⟨sm5,zAD _ _ hS5 hK5 nd fr,few⟩ Jlk fun H6 k6=>hN _ _ ⟨zAB k6 ?_ ?_,zAR _ _ _ _ _ _ _ _ rfl⟩)
     ·rw [bJ];omega
     ·rw [bJ];simp at l9;omega
   ·have c1:¬(g % 12<2/\1<es.length):=fun z=>e1 ⟨z.1,Jlk⟩;rw [zq1 c1] at hN;refine aU (fun e2=>?_) (fun e2=>?_)
    ·rw [zq2 e2] at hN;refine Jo (SqL.of hS5) hB5 (fun e3 e4 e5=>?_) (fun e3=>?_)
     ·have hne:¬ns=[]:=fun z=>by rw [z] at e5;simp at e5
      rw [zq2 ⟨e3,Jlk,hne⟩] at hN;refine ⟨.inl ⟨rfl,_,SqL.of hS5⟩,fun u1 hu1=>zAA _ _ (SqL.of ae) (EK Jlk Jlk) fun u2 hu2=>?_⟩;have t1:=Same.upd (o:=.lst [V.str "if",V.str "while",V.str "if"]) hu1;have t2:=t1.updN (o:=.lst []) hu2;refine ⟨CDivB.small Jkm Jkm,zAC _ (.inl (t2.seq hB5)) (by rw [zq4];have:=zq62.mpr hne;omega) (zAA _ _ (t2.seq hB5) (by rw [zq4];exact mS hne) fun u3 hu3 u4 hu4=>?_)⟩;have t3:=t2.updN (o:=.lst []) hu3;have t4:=t3.updN (o:=.tup [V.str (kd3 (g % 12-2)).str,V.ref u2,V.str (j7 (g / 12) ns),V.ref u3]) hu4;have m2:=t1.free hu2;have m3:=t2.free hu3;have n23:¬u2=u3:=fun z=>by rw [<- z,ae] at hu3;cases hu3
      have no2:u2∉S::f:=fun z=>by obtain ⟨u,hu⟩:=trk u2 z;rw [m2] at hu;cases hu
      have no3:u3∉S::f:=fun z=>by obtain ⟨u,hu⟩:=trk u3 z;rw [m3] at hu;cases hu
      refine zAC xs (t4 _ _ hS5) (by rw [b9];omega) (hN _ _ ⟨zAB (ul (fo:=[]) (sm5.trans t4) (t4 _ _ hS5) (hK5.keep t4.ts (Kept.of t4)) (Same.upd hu4 _ _ (Same.upd hu3 _ _ ae)) (Same.upd hu4 _ _ ae) .nil (SqT.of ae) ?_ (fun c' hc'=>?_) (fun e he=>by have:=few e he;omega)) Jll (by simp;omega),zAR _ _ _ _ _ _ _ _ rfl⟩)
      ·have n1:=zq42.mp nd;simp only [List.cons_append,List.nil_append,List.nodup_cons,List.mem_cons,not_or] at no2 no3 ⊢;exact zAF (zAB (fun z=>no2.1 z.symm) (fun z=>no3.1 z.symm) n1.1) ⟨n23,no2.2⟩ no3.2 n1.2
      ·simp only [List.cons_append,List.nil_append,List.mem_cons] at hc';rcases hc' with z | z | z | z
       ·exact fr c' (by rw [z];simp)
       ·rw [z];exact sm5.free m2
       ·rw [z];exact sm5.free m3
       ·exact fr c' (b7 _ z)
     ·have c3:¬(g % 12<5/\es.length<8/\¬ns=[]):=fun z=>e3 (zAB z.1 Jlk (by have:=zq62.mpr z.2.2;rw [zq4];omega));rw [zq1 c3] at hN;obtain ⟨e,es',rfl⟩:∃e es',es=e::es':=by
       match es,l1 with
       |e::es',_=>exact zAH e es' rfl
      refine ⟨CDivB.small Jkm Jkm,zAG ns hB5 w0 w8 fun p6 H6 s6 hp6 ht6=>?_⟩;refine zAR H xs e es' f ([]) (.deed (eX (g / 12) ns w)) i (zBC (sm5.trans s6) (s6 _ _ hS5) (hK5.keep s6.ts (Kept.of s6)) (.deed iM (SqT.of (by rw [vI];exact ht6))) (by rw [g9];exact nd) (fun c' hc'=>fr c' (by rw [g9] at hc';exact hc')) few Jlk fun H7 k7=>?_);exact hN _ _ ⟨zAB k7 (by simp [lG]) (by simpa [lG] using l9),zAR _ _ _ _ _ _ _ _ rfl⟩
    ·rw [zq1 e2] at hN;exact hN _ _ ⟨zAB ⟨sm5,zAD _ _ hS5 hK5 nd fr,fun e he=>by have:=few e he;omega⟩ l1 l9,zAR _ _ _ _ _ _ _ _ rfl⟩
  ·intro σ H' hv;obtain ⟨⟨ok,l1,l9⟩,o6,o7,o8,o9,o10,o11,o12,o13,rfl⟩:=hE _ _ _ hv;clear hv hI hE;rw [zq4,ef] at *;exact ⟨zAG _ lcs ok l1 l9,zBG _ _ _ _ _ _ _ _ _ rfl⟩
 ·rintro σ H' ⟨⟨B,hB63,ok,l1,l9⟩,o5,o6,o7,o8,o9,o10,o11,o12,o13,rfl⟩;obtain ⟨μ,hμ⟩:∃μ:L2.St->Hp->Nat,μ=fun _ H'=>match H' S with | some (.lst xs)=>xs.length | _=>0:=⟨_,rfl⟩
  refine eQ (fun σ H'=>(∃es B,dk K H H' S es B/\B+es.length<=80/\1<=es.length/\bX es=dU cs ns w most)/\∃o5 o6 o7 o8 o9 o10 o11 o12 o13,σ=[some (.ref a),some (.ref b),some (.int w),some (.int most),some (.ref S),o5,o6,o7,o8,o9,o10,o11,o12,o13])
   μ ⟨zAD _ B ok Jlk l1 rfl,zBG _ _ _ _ _ _ _ _ _ rfl⟩ ?_
  ·rintro σ H2 ⟨⟨es,B2,ok2,hb2,le2,hcl⟩,o5,o6,o7,o8,o9,o10,o11,o12,o13,rfl⟩;obtain ⟨sm,⟨xs,f,hSx,hK,nd,fr⟩,few⟩:=id ok2;have lx:=hK.length;rwa [i3];refine zn _ (.inl (SqL.of hSx)) (aU (fun e1=>?_) (fun e1=>?_))
   ·obtain ⟨e,e2,es',rfl⟩:∃e e2 es',es=e::e2::es':=by
     match es,(show 1<es.length by omega) with
     |e::e2::es',_=>exact zAL e e2 es' rfl
    refine zn (fun σ H'=>((∃es B,dk K H H' S es B/\B+es.length<=80/\1<=es.length/\bX es=dU cs ns w most)/\∃o5 o6 o7 o8 o9 o10 o11 o12 o13,σ=[some (.ref a),some (.ref b),some (.int w),some (.int most),some (.ref S),o5,o6,o7,o8,o9,o10,o11,o12,o13])/\μ σ H'<μ [some (.ref a),some (.ref b),some (.int w),some (.int most),some (.ref S),o5,o6,o7,o8,o9,o10,o11,o12,o13] H2) (fun σ' H' h=>zAC _ h.2 rfl h.1) ?_;refine zAX H e e2 es' B2 (zAB ok2 Jlk (fun H3 k3=>⟨⟨zAD _ (B2+1) k3 (by rw [bJ];simp at hb2;omega) (by rw [bJ];omega) ?_,zBG _ _ _ _ _ _ _ _ _ rfl⟩,?_⟩))
    ·rw [<- hcl];show bX (e2.add (cx e)::es')=_;rw [bX]
    ·obtain ⟨_,⟨xs3,f3,hS3,hK3,_,_⟩,_⟩:=k3;have l3:=hK3.length;rw [bJ] at l3;rw [hμ];dsimp only;rw [hS3,hSx];simp at lx;show xs3.length<xs.length;omega
   ·obtain ⟨e,rfl⟩:∃e,es=[e]:=by
     match es,le2,(show es.length<=1 by omega) with
     | [e],_,_=>exact ⟨e,rfl⟩
    obtain ⟨xs',x,f',g',rfl,rfl,h1,h2⟩:=hK.inv
    cases h1
    obtain ⟨qq,ra,oo,ys,zs,fa,fo,rfl,hq,ha,hr1,ho,hr2,rfl⟩:=id h2;have hcl':e.rows=dU cs ns w most:=by rw [<- hcl,bX]
    refine zAA _ _ (SqL.of hSx) rfl ?_;rwa [];refine zAA _ _ hq rfl (q ra ys fa H2 sm ha (by rw [<- hcl'];exact hr1) ?_ (fun c hc=>fr c ?_))
    ·exact nd.sublist (.cons _ (by rw [g9];exact .cons_cons _ (.cons _ (qt _ _))))
    ·simp only [List.append_nil,List.cons_append,List.mem_cons,List.mem_append] at hc ⊢;rcases hc with z | z<;>simp [z]
theorem lX{a b:Addr}{w most:Int}{H:Hp}{Q:VK}{E:XK}:kr K [.ref a,.ref b,.int w,.int most] H Q E=∃(cs:List Int)(ns:List Str),SqL K H a (cs.map V.int)/\cs.length<=63/\(∀z∈cs,Builtin.Int.intBits z<=2 ^ 20)/\SqL K H b (ns.map V.str)/\0<=w/\w<=8/\
 ∀p xs f H',Same H H'->H' p=some (.lst xs)->StmsV K H' xs (dU cs ns w most) f->(p::f).Nodup->(∀c∈p::f,H c=none)->Q (.ref p) H':=propext ⟨by rintro ⟨_,_,_,_,e,q⟩;cases e;exact q,fun q=>zAU _ _ _ _ rfl q⟩
def fU(K:W.Frag)(d:Nat):Sp:=fun vs H Q _=>∃(a:Addr)(xs:List V)(ss:List Stm)(f:List Addr),vs=[.ref a]/\H a=some (.lst xs)/\StmsV K H xs ss f/\bA ss<d/\aS ss<=1000/\
 ∀p ys g H',Same H H'->H' p=some (.lst ys)->StmsV K H' ys ss g->(p::g).Nodup->(∀c∈p::g,H c=none)->Q (.ref p) H'
def i7(K:W.Frag)(d:Nat):Sp:=fun vs H Q _=>∃(x:V)(s:Stm)(f:List Addr),vs=[x]/\StmV K H x s f/\s.deep<d/\s.many<=1000/\
 ∀y g H',Same H H'->StmV K H' y s g->g.Nodup->(∀c∈g,H c=none)->Q y H'
theorem zd{d:Nat}{x:V}{H:Hp}{Q:VK}{E:XK}:i7 K d [x] H Q E=∃(s:Stm)(f:List Addr),StmV K H x s f/\s.deep<d/\s.many<=1000/\∀y g H',Same H H'->StmV K H' y s g->g.Nodup->(∀c∈g,H c=none)->Q y H':=
 propext ⟨by rintro ⟨_,s,f,e,q⟩;cases e;exact zAH s f q,by rintro ⟨s,f,q⟩;exact zAK x s f rfl q⟩
theorem bZ{d:Nat}{a:Addr}{H:Hp}{Q:VK}{E:XK}:fU K d [.ref a] H Q E=∃(xs:List V)(ss:List Stm)(f:List Addr),H a=some (.lst xs)/\StmsV K H xs ss f/\bA ss<d/\aS ss<=1000/\
 ∀p ys g H',Same H H'->H' p=some (.lst ys)->StmsV K H' ys ss g->(p::g).Nodup->(∀c∈p::g,H c=none)->Q (.ref p) H':=
 propext ⟨by rintro ⟨_,xs,ss,f,e,q⟩;cases e;exact zAL xs ss f q,by rintro ⟨xs,ss,f,q⟩;exact zAU a xs ss f rfl q⟩
theorem iK(T:Txt K mg t)(d:Nat)(G_110:FnOk P w K mg base CX0 (2 * d+1) t.f_110 t.e_110 ["row"] (i7 K d)):FnOk P w K mg base CX0 (2 * d+2) t.f_109 t.e_109 ["rows"] (fU K d):=by
 refine T.d_109.F.ok Gw ∅ ?_;rintro cdv A outer s H vs Q E hr ⟨a,xs,ss,f,rfl,ha,hx,hd,hl,q⟩;refine ⟨_,
   (XSs.h
   (aj
    (aw (br (tns:=["row"]) (cns:=[]) (ci:=[]) rfl (CompSc.of Jkl) (aN (yqv 0 vl)) (fun _=>(av (i:=1) (show List.Nodup [(".0":Str),("row":Str)] by decide +kernel) rfl ll (Or.inr Jkl))) (fun _=>bN) (fun _=>(au T.d_110 G_110 hr.m (aa (yqv 1 vl) ac) gl)))))),?_⟩
 rw [show aP _ [V.ref a]=[some (.ref a)] from rfl];rwa [zd];refine ⟨⟨_,SqL.of ha⟩,fun acc hacc bk=>?_⟩;have lx:=hx.length;have lm:=oP ss;refine cP (xs:=xs) (fun i ys H'=>Same H H'/\H' acc=some (.lst ys)/\ys.length=i/\∃g,StmsV K H' ys (ss.take i) g/\(acc::g).Nodup/\∀c∈acc::g,H c=none) ?_ ?_ ?_ ?_
 ·exact zAF (Same.upd hacc) ae rfl (zAC ([]) .nil Jll (fun c hc=>by rw [zq9.mp hc];exact hacc))
 ·intro i ys H' _ h;exact SqL.of (h.1 _ _ ha)
 ·rintro i x ys H' os hxi ho ⟨sm,hacc2,ly,g,hg,nd,fr⟩
  match os,ho with
  | [o],_=>
   rwa [zd];refine ⟨zn ([some x]) rfl rfl,?_⟩;rw [zq2 trivial];obtain ⟨s,f',hs,hsv,_⟩:=hx.get hxi;have hi:i<ss.length:=(zq7.mp hs).1;have hse:ss[i]=s:=(zq7.mp hs).2;have hds:=lj (bg hs);refine zAD s f' (hsv.same sm) Jlk (by have:=yc (bg hs);omega) fun y g2 H2 s2 hy nd2 fr2=>?_;have na:acc∉g:=(zq42.mp nd).1;have na2:acc∉g2:=fun z=>by rw [fr2 acc z] at hacc2;cases hacc2
   have tt:TSame H2 (upd H2 acc (.lst (ys++[y]))):=TSame.updL (s2 _ _ hacc2);refine zAV (s2 _ _ hacc2) (by rw [b9];omega) ((sm.trans s2).updM hacc) ae (by simp [ly]) (zAC (g++g2) ?_ ?_ fun c hc=>?_)
   ·rw [df hi,hse];exact ((hg.same s2).keep tt (Kept.upd na)).snoc (hy.keep tt (Kept.upd na2))
   ·refine zq42.mpr ⟨fun z=>(zq20.mp z).elim na na2,lP (zq42.mp nd).2 nd2 fun c h1 h2=>?_⟩;obtain ⟨zs,hz⟩:=hg.tracked c h1;rw [fr2 c h2] at hz;cases hz
   ·rcases zq11.mp hc with z | z
    ·rw [z];exact hacc
    ·rcases zq20.mp z with z | z
     ·exact fr c (b7 _ z)
     ·exact sm.free (fr2 c z)
 ·rintro ys H' ⟨sm,hacc2,ly,g,hg,nd,fr⟩;rw [lx,ef] at hg;exact q acc ys g H' sm hacc2 hg nd fr
theorem vE(T:Txt K mg t)(d:Nat)(G_109:FnOk P w K mg base CX0 (2 * d+2) t.f_109 t.e_109 ["rows"] (fU K d)):FnOk P w K mg base CX0 (2 * (d+1)+1) t.f_110 t.e_110 ["row"] (i7 K (d+1)):=by
 refine T.d_110.F.ok Gx ∅ ?_;rintro cdv A outer s H vs Q E hr ⟨x,s,f,rfl,hx,hd,hm,q⟩;refine ⟨_,
   (XSs.h
   (ai
    (aL (ap bu (ak ar (yqv 0 vl) af) aH (aA _))
     (aj
      (aw (aE (aa aH (aa (ak ar (yqv 0 vl) af) (aa (au T.d_109 G_109 hr.m (aa (ak ar (yqv 0 vl) af) ac) gl) (aa (au T.d_109 G_109 hr.m (aa (ak ar (yqv 0 vl) af) ac) gl) ac)))))))
     aC)
   (ai
    (aL (ap bu (ak ar (yqv 0 vl) af) aH (aA _))
     (aj
      (aw (aE (aa aH (aa (ak ar (yqv 0 vl) af) (aa (au T.d_109 G_109 hr.m (aa (ak ar (yqv 0 vl) af) ac) gl) ac))))))
     aC)
   (aj
    (aw (yqv 0 vl)))))),?_⟩
 rw [show aP _ [x]=[some x] from rfl]
 cases hx with
 | @deed q0 dd hf hq=>
  rwa [bZ];refine tK hf hq Jkk Jkk Jkk (zn _ rfl ?_);rw [zq1 bz];refine tK hf hq Jkk Jkk Jkk (zn _ rfl ?_);rw [zq1 bz];exact q _ [] H (Same.refl H) (.deed hf hq) Jll (fun c hc=>by cases hc)
 | @ifs q0 a b n xs ys ones others f g hq ha hb h1 h2=>
  simp only [Stm.deep,Stm.many] at hd hm;rwa [bZ];refine zAA _ _ hq rfl ?_;rwa [bZ];refine aU (fun _=>zAA _ _ hq rfl (zAA _ _ hq rfl ?_)) (fun z=>absurd trivial z);rwa [bZ];refine zAI xs ones f ha h1 Jlk Jlk fun p1 zs1 g1 H1 s1 e1 k1 nd1 fr1=>zAA _ _ (s1.seqT hq) rfl ?_;rwa [bZ];refine zAI ys others g (s1 _ _ hb) (h2.same s1) Jlk Jlk fun p2 zs2 g2 H2 s2 e2 k2 nd2 fr2 p3 hp3=>?_;have s3:=Same.upd (o:=.tup [V.str "if",V.str n,V.ref p1,V.ref p2]) hp3;have s12:=s1.trans s2;refine q _ (p1::p2::(g1++g2)) _ (s12.trans s3) (.ifs (SqT.of ae) (s3 _ _ (s2 _ _ e1)) (s3 _ _ e2) ((k1.same s2).same s3) (k2.same s3)) ?_ (fun c hc=>?_)
  ·have dj:∀c∈p1::g1,c∉p2::g2:=fun c h1 h2=>by
    have ex:∃u,H1 c=some u:=by
     rcases zq11.mp h1 with z | z
     ·exact ⟨_,by rw [z];exact e1⟩
     ·obtain ⟨u,hu⟩:=k1.tracked c z;exact ⟨_,hu⟩
    obtain ⟨u,hu⟩:=ex;rw [fr2 c h2] at hu;cases hu
   have n5:=lP nd1 nd2 dj;refine (List.Perm.nodup_iff ?_).mp n5;rw [vj];exact .cons _ List.perm_middle
  ·rcases zq11.mp hc with z | z
   ·rw [z];exact fr1 p1 Jll
   rcases zq11.mp z with z | z
   ·rw [z];exact s1.free (fr2 p2 Jll)
   rcases zq20.mp z with z | z
   ·exact fr1 c (b7 _ z)
   ·exact s1.free (fr2 c (b7 _ z))
 | @whl q0 a n xs rows f hq ha h1=>simp only [Stm.deep,Stm.many] at hd hm;rwa [bZ];refine zAA _ _ hq rfl ?_;rwa [bZ];refine aU (fun z=>absurd z Jkk) (fun _=>zAA _ _ hq rfl ?_);rwa [bZ];refine aU (fun _=>zAA _ _ hq rfl (zAA _ _ hq rfl ?_)) (fun z=>absurd trivial z);rwa [bZ];refine zAI xs rows f ha h1 Jlk Jlk fun p1 zs1 g1 H1 s1 e1 k1 nd1 fr1 p3 hp3=>?_;have s3:=Same.upd (o:=.tup [V.str "while",V.str n,V.ref p1]) hp3;exact q _ (p1::g1) _ (s1.trans s3) (.whl (SqT.of ae) (s3 _ _ e1) (k1.same s3)) nd1 fr1
theorem lS(T:Txt K mg t):∀d,FnOk P w K mg base CX0 (2 * d+1) t.f_110 t.e_110 ["row"] (i7 K d)/\FnOk P w K mg base CX0 (2 * d+2) t.f_109 t.e_109 ["rows"] (fU K d)
 |0=>by
  have h0:FnOk P w K mg base CX0 (2 * 0+1) t.f_110 t.e_110 ["row"] (i7 K 0):=⟨fun vs H Q E h=>by obtain ⟨_,_,_,_,_,h,_⟩:=h;omega,fun _ _ _ _ _ _ _ _ _ _ _ _ _ h=>by obtain ⟨_,_,_,_,_,h,_⟩:=h;omega⟩
  exact ⟨h0,iK T 0 h0⟩
 |d+1=>by have h1:=vE T d (lS T d).2;exact ⟨h1,iK T (d+1) h1⟩
def sT(K:W.Frag)(C:Addr)(d:Nat)(p:Addr)(a0:Addr)(b0:Addr)(r0:Addr)(wd:Int)(H:Hp)(Q:VK):Prop:=∃(dx:Addr)(ins:List Str)(oth:List Str)(xs:List V)(ss:List Stm)(f:List Addr),H p=some (.ins C dx [])/\
 H a0=some (.lst (ins.map V.str))/\H b0=some (.lst (oth.map V.str))/\H r0=some (.lst xs)/\StmsV K H xs ss f/\bA ss<d/\aS ss<=1000/\ins.length<=1000/\oth.length<=1000/\
 ∀a b r ys g H',SameX p H H'->qL K C H' p wd ins oth ss a b r ys g->(a::b::r::g).Nodup->(∀c∈a::b::r::g,H c=none)->Q .non H'
def uJ(K:W.Frag)(C:Addr)(d:Nat):Sp:=fun vs H Q _=>∃(p:Addr)(a0:Addr)(b0:Addr)(r0:Addr)(wd:Int),vs=[.ref p,.int wd,.ref a0,.ref b0,.ref r0]/\sT K C d p a0 b0 r0 wd H Q
theorem BQ(T:Txt K mg t)(d:Nat):FnOk P w K mg base CX0 (2 * d+3) t.f_108 t.e_108 ["self","width","ins","boxes","rows"] (uJ K t.C_Program d):=by
 have G_109:=(@lS P w K mg base t T d).2;refine T.d_108.F.ok Gv ∅ ?_;rintro cdv A outer s H vs Q E hr ⟨p,a0,b0,r0,wd,rfl,dx,ins,oth,xs,ss,f,hp,ha,hb,hr0,hx,hd,hm,hi,ho,q⟩;refine ⟨_,
   (XSs.h
   (ai
    (eA (yqv 0 vl) (yqv 1 vl) rfl)
   (ai
    (eA (yqv 0 vl) (bL cA gl T.z_list boot_list (aa (yqv 2 vl) ac)) rfl)
   (ai
    (eA (yqv 0 vl) (ay f6 (bL cA gl T.z_list boot_list (aa (yqv 2 vl) ac)) (bL cA gl T.z_list boot_list (aa (yqv 3 vl) ac))) rfl)
   (aj
    (eA (yqv 0 vl) (au T.d_109 G_109 hr.m (aa (yqv 4 vl) ac) gl) rfl)))))),?_⟩
 rw [show aP _ [V.ref p,V.int wd,V.ref a0,V.ref b0,V.ref r0]=[some (.ref p),some (.int wd),some (.ref a0),some (.ref b0),some (.ref r0)] from rfl];rwa [bZ];have na:a0≠p:=du ha hp (by intro z;cases z);have nb:b0≠p:=du hb hp (by intro z;cases z);have nr:r0≠p:=du hr0 hp (by intro z;cases z);refine oC hp T.c_Program.cl T.n_Program_width Jll ?_;rw [eM Jlm,qu];obtain ⟨H1,hH1⟩:∃H1,H1=upd H p (.ins t.C_Program dx [("width",V.int wd)]):=⟨_,rfl⟩
 rw [<- hH1];have e1:H1 p=some (.ins t.C_Program dx [("width",V.int wd)]):=by rw [hH1];exact ae
 have s1:SameX p H H1:=by rw [hH1];exact SameX.upd
 have t1:TSame H H1:=by rw [hH1];exact TSame.updI hp
 rwa [bZ];refine zn _ (.inl (SqL.of (s1 _ _ ha na))) fun l1 hl1=>?_;have np1:p≠l1:=am e1 hl1;refine oC (by rw [ao np1];exact e1) T.c_Program.cl T.n_Program_ins Jll ?_;rw [eM Jkl];obtain ⟨H2,hH2⟩:∃H2,H2=upd (upd H1 l1 (.lst (ins.map V.str))) p (.ins t.C_Program dx ([(("width":Str),V.int wd)]++[(("ins":Str),V.ref l1)])):=⟨_,rfl⟩
 rw [<- hH2];have e2:H2 p=some (.ins t.C_Program dx ([(("width":Str),V.int wd)]++[(("ins":Str),V.ref l1)])):=by rw [hH2];exact ae
 have s2:SameX p H1 H2:=by rw [hH2];exact (SameX.of (Same.upd hl1)).trans SameX.upd
 have k2:H2 l1=some (.lst (ins.map V.str)):=by rw [hH2,ao np1.symm];exact ae
 have t2:TSame H1 H2:=by rw [hH2];exact (Same.upd hl1).ts.trans (TSame.updI (by rw [ao np1];exact e1))
 have s02:=s1.trans s2;rwa [bZ];refine zn _ (.inl (SqL.of (s02 _ _ ha na))) fun l2 hl2=>?_;have s3:=Same.upd (o:=.lst (ins.map V.str)) hl2;refine zn _ (.inl (SqL.of (s3 _ _ (s02 _ _ hb nb)))) fun l3 hl3=>?_;have s4:=s3.trans (Same.upd (o:=.lst (oth.map V.str)) hl3);refine zAD _ _ (by rw [ao (am ae hl3)];exact ae) ae (by rw [b9];simp only [List.length_map];omega) fun l4 hl4=>?_;have s5:=s4.trans (Same.upd (o:=.lst (ins.map V.str++oth.map V.str)) hl4);refine oC (s5 _ _ e2) T.c_Program.cl T.n_Program_boxes Jll ?_;rw [eM Jkl];have np4:p≠l4:=am (s4 _ _ e2) hl4;obtain ⟨H3,hH3⟩:∃H3,H3=upd (upd (upd (upd H2 l2 (.lst (ins.map V.str))) l3 (.lst (oth.map V.str))) l4 (.lst (ins.map V.str++oth.map V.str))) p (.ins t.C_Program dx ([(("width":Str),V.int wd)]++[(("ins":Str),V.ref l1)]++[(("boxes":Str),V.ref l4)])):=⟨_,rfl⟩
 rw [<- hH3];have e3:H3 p=some (.ins t.C_Program dx ([(("width":Str),V.int wd)]++[(("ins":Str),V.ref l1)]++[(("boxes":Str),V.ref l4)])):=by rw [hH3];exact ae
 have s23:SameX p H2 H3:=by rw [hH3];exact (SameX.of s5).trans SameX.upd
 have k4:H3 l4=some (.lst (ins.map V.str++oth.map V.str)):=by rw [hH3,ao np4.symm];exact ae
 have t3:TSame H2 H3:=by rw [hH3];exact s5.ts.trans (TSame.updI (s5 _ _ e2))
 have s03:=s02.trans s23;rwa [bZ];have pf:p∉f:=fun z=>by obtain ⟨zs,hz⟩:=hx.tracked p z;rw [hp] at hz;cases hz
 refine zAI xs ss f (s03 _ _ hr0 nr) (hx.keep ((t1.trans t2).trans t3) (fun c hc o e=>s03 c o e (fun z=>pf (by rw [<- z];exact hc)))) hd hm fun r ys g H4 s34 e4 k5 nd fr=>?_;refine oC (s34 _ _ e3) T.c_Program.cl T.n_Program_rows Jll ?_;rw [eM Jkl];have pg:p∉r::g:=fun z=>by rw [fr p z] at e3;cases e3
 have npr:r≠p:=fun z=>pg (by rw [z];exact cN);have nl1:l1≠p:=np1.symm;have nl4:l4≠p:=np4.symm;have n14:l1≠l4:=am (s4 _ _ k2) hl4;have f1:H l1=none:=s1.free e1 hl1;have f4:H l4=none:=s02.free e2 (s4.free hl4);have k3:H3 l1=some (.lst (ins.map V.str)):=s23 _ _ k2 nl1;refine q l1 l4 r ys g _ (s03.trans ((SameX.of s34).trans SameX.upd)) ⟨⟨dx,ae⟩,?_,?_,?_,?_⟩ ?_ ?_
 ·rw [ao nl1];exact s34 _ _ k3
 ·rw [ao nl4,cq];exact s34 _ _ k4
 ·rw [ao npr];exact e4
 ·exact k5.keep (TSame.updI (s34 _ _ e3)) (Kept.upd fun z=>pg (b7 _ z))
 ·have a1:l1∉r::g:=fun z=>by rw [fr l1 z] at k3;cases k3
  have a4:l4∉r::g:=fun z=>by rw [fr l4 z] at k4;cases k4
  refine zq42.mpr ⟨fun z=>?_,zq42.mpr ⟨a4,nd⟩⟩;rcases zq11.mp z with z | z
  ·exact n14 z
  ·exact a1 z
 ·intro c hc;rcases zq11.mp hc with z | hc
  ·rw [z];exact f1
  rcases zq11.mp hc with z | hc
  ·rw [z];exact f4
  exact s03.free e3 (fr c hc)
variable {E:XK} {H H':Hp} {Q:VK} {p:Addr} {x:V}
def d8:FZ.Ed->List V
 | .stop=>[.str "stop"]
 | .go i=>[.str "go",.int i]
 | .choose n i j=>[.str "choose",.str n,.int i,.int j]
def DeedV1(K:W.Frag)(H:Hp)(x:V)(d:Deed):Prop:=∃q,x=.ref q/\SqT K H q d.vs/\d.fine
def BlkV(K:W.Frag)(N:Addr->Prop)(H:Hp)(bl:Addr)(x:V)(b:FZ.Blk):Prop:=∃q a e vs,x=.ref q/\H q=some (.tup [.ref a,.ref e])/\H a=some (.lst vs)/\Paired (DeedV1 K H) vs b.ds/\H e=some (.tup (d8 b.ed))/\a≠bl/\N a
theorem DeedV1.ts{K:W.Frag}{d:Deed}(t:TSame H H')(h:DeedV1 K H x d):DeedV1 K H' x d:=let ⟨q,e,z,f⟩:=h;(zAC q e (t.seqT z) f)
theorem SameX.tsL2{ys:List V}(s:SameX p H H')(h:H p=some (.lst ys)):TSame H H':=
 ⟨fun c xs e=>s c _ e (fun z=>by rw [z,h] at e;cases e),fun c o u e=>s c _ e (fun z=>by rw [z,h] at e;cases e)⟩
theorem BlkV.sx{K:W.Frag}{N:Addr->Prop}{bl:Addr}{b:FZ.Blk}{ys:List V}(h:BlkV K N H bl x b)(s:SameX bl H H')(hb:H bl=some (.lst ys)):BlkV K N H' bl x b:=by obtain ⟨q,a,e,vs,ex,h1,h2,h3,h4,h5⟩:=h;have tt:=SameX.tsL2 s hb;exact zBB q a e vs ex (s _ _ h1 (fun z=>by rw [z,hb] at h1;cases h1)) (s _ _ h2 h5.1) (FL.Paired.imp h3 fun y _ d _ z=>z.ts tt) (s _ _ h4 (fun z=>by rw [z,hb] at h4;cases h4)) h5
structure PartAt(K:W.Frag)(C:Addr)(N:Addr->Prop)(H:Hp)(p bl:Addr)(B:List FZ.Blk):Prop where
 ob:∃dx,H p=some (.ins C dx [("blocks",.ref bl)])
 nw:∀c,H c=none->N c
 bs:∃xs,H bl=some (.lst xs)/\Paired (BlkV K N H bl) xs B
theorem PartAt.ne{K:W.Frag}{C:Addr}{N:Addr->Prop}{bl:Addr}{B:List FZ.Blk}(h:PartAt K C N H p bl B):p≠bl:=fun z=>by obtain ⟨dx,e⟩:=h.ob;obtain ⟨xs,e2,_⟩:=h.bs;rw [z,e2] at e;cases e
theorem PartAt.same{K:W.Frag}{C:Addr}{N:Addr->Prop}{bl:Addr}{B:List FZ.Blk}(h:PartAt K C N H p bl B)(s:Same H H'):PartAt K C N H' p bl B:=by obtain ⟨xs,e,q⟩:=h.bs;exact ⟨let ⟨dx,e⟩:=h.ob;⟨dx,s _ _ e⟩,fun c hc=>h.nw c (s.free hc),xs,s _ _ e,FL.Paired.imp q fun x _ b _ z=>z.sx (SameX.of s) e⟩
theorem BlkV.same{K:W.Frag}{N:Addr->Prop}{bl:Addr}{b:FZ.Blk}(h:BlkV K N H bl x b)(s:Same H H'):BlkV K N H' bl x b:=by obtain ⟨q,a,e,vs,ex,h1,h2,h3,h4,h5⟩:=h;exact zBB q a e vs ex (s _ _ h1) (s _ _ h2) (FL.Paired.imp h3 fun y _ d _ z=>z.ts s.ts) (s _ _ h4) h5
def qO(K:W.Frag)(C:Addr)(p:Addr)(x:V)(H:Hp)(Q:VK):Prop:=∃(N:Addr->Prop)(bl:Addr)(B:List FZ.Blk)(b:FZ.Blk),PartAt K C N H p bl B/\BlkV K N H bl x b/\B.length<5000/\∀H',SameX bl H H'->PartAt K C N H' p bl (B++[b])->Q (.int B.length) H'
def zU(K:W.Frag)(C:Addr):Sp:=fun vs H Q _=>∃(p:Addr)(x:V),vs=[.ref p,x]/\qO K C p x H Q
def sU(K:W.Frag)(C:Addr)(p:Addr)(H:Hp)(Q:VK):Prop:=∃(N:Addr->Prop)(bl:Addr)(B:List FZ.Blk),PartAt K C N H p bl B/\B.length<5000/\∀H',SameX bl H H'->PartAt K C N H' p bl (B++[⟨[],.stop⟩])->Q (.int B.length) H'
def uL(K:W.Frag)(C:Addr):Sp:=fun vs H Q _=>∃p:Addr,vs=[.ref p]/\sU K C p H Q
def xB(K:W.Frag)(C:Addr)(p:Addr)(x:V)(H:Hp)(Q:VK):Prop:=∃(N:Addr->Prop)(bl:Addr)(B:List FZ.Blk)(b:FZ.Blk),PartAt K C N H p bl B/\BlkV K N H bl x b/\B.length<5000/\∀H',SameX bl H H'->PartAt K C N H' p bl (FZ.aB b B).2->Q (.int (FZ.aB b B).1) H'
def zW(K:W.Frag)(C:Addr):Sp:=fun vs H Q _=>∃(p:Addr)(x:V),vs=[.ref p,x]/\xB K C p x H Q
theorem D6{C:Addr}:zU K C [.ref p,x] H Q E=qO K C p x H Q:=propext ⟨by rintro ⟨_,_,e,q⟩;cases e;exact q,fun q=>zAE _ _ rfl q⟩
theorem mU{C:Addr}:uL K C [.ref p] H Q E=sU K C p H Q:=propext ⟨by rintro ⟨_,e,q⟩;cases e;exact q,fun q=>zn _ rfl q⟩
theorem i5{C:Addr}:zW K C [.ref p,x] H Q E=xB K C p x H Q:=propext ⟨by rintro ⟨_,_,e,q⟩;cases e;exact q,fun q=>zAE _ _ rfl q⟩
theorem da{a c:Addr}{o:HO}(h:upd H a o c=none):H c=none:=by
 unfold upd at h
 split at h
 ·cases h
 ·exact h
theorem yw(T:Txt K mg t):FnOk P w K mg base CX0 1 t.f_114 t.e_114 ["self","block"] (zU K t.C_Parting):=by
 refine T.d_114.F.ok GC ∅ ?_;rintro cdv A outer s H vs Q E hr ⟨p,x,rfl,N,bl,B,b,hP,hb,hl,q⟩;obtain ⟨dx,ob⟩:=hP.ob;obtain ⟨xs,hbl,hxs⟩:=hP.bs;have lx:=hxs.length;refine ⟨_,
   (XSs.h
   (ai
    (aR (c6 PySem.F.plainAttrs_list PySem.F.slot_list_append PySem.F.type_list_append aX (cH (yqv 0 vl) rfl) (aa (yqv 1 vl) ac)))
   (aj
    (aw (ay jq (aD aF gl T.z_len PySem.boot_len (aa (cH (yqv 0 vl) rfl) ac)) af))))),?_⟩
 rw [show aP _ [V.ref p,x]=[some (.ref p),some x] from rfl];rwa [];refine j3 ob T.c_Parting.cl T.n_Parting_blocks rfl ?_;rwa [];have sx:SameX bl H (upd H bl (.lst (xs++[x]))):=SameX.upd;refine ⟨.inl ⟨rfl,_,SqL.of hbl⟩,zAC _ hbl (by rw [b9];omega) ?_⟩;refine j3 (sx _ _ ob hP.ne) T.c_Parting.cl T.n_Parting_blocks rfl ?_;rwa [];refine zn _ (.inl (SqL.of ae)) ?_;have z:=q _ sx ⟨⟨dx,sx _ _ ob hP.ne⟩,fun c hc=>hP.nw c (da hc),xs++[x],ae,FL.Paired.snoc (hb.sx sx hbl) (FL.Paired.imp hxs fun y _ c _ h=>h.sx sx hbl)⟩;rw [show (((xs++[x]).length:Nat):Int)-1=(B.length:Int) by rw [zq8,bV,lx];omega];exact z
theorem fQ{N:Addr->Prop}{H:Hp}{bl a e q:Addr}{ed:FZ.Ed}{vs:List V}{ds:List Deed}{ys:List V}(hbl:H bl=some (.lst ys))(hn:N a)(ha:H a=none)(hv:Paired (DeedV1 K H) vs ds)(he:upd H a (.lst vs) e=none)(hq:upd (upd H a (.lst vs)) e (.tup (d8 ed)) q=none):
  Same H (upd (upd (upd H a (.lst vs)) e (.tup (d8 ed))) q (.tup [.ref a,.ref e]))/\BlkV K N (upd (upd (upd H a (.lst vs)) e (.tup (d8 ed))) q (.tup [.ref a,.ref e])) bl (.ref q) ⟨ds,ed⟩:=by
 have t1:=Same.upd (o:=.lst vs) ha;have t2:=Same.upd (o:=.tup (d8 ed)) he;have t3:=Same.upd (o:=.tup [V.ref a,V.ref e]) hq;have s:=(t1.trans t2).trans t3;exact ⟨s,zAY q a e vs rfl ae (t3 _ _ (t2 _ _ ae)) (FL.Paired.imp hv fun y _ d _ z=>z.ts s.ts) (t3 _ _ ae) (am hbl ha).symm hn⟩
theorem uf(T:Txt K mg t):FnOk P w K mg base CX0 2 t.f_113 t.e_113 ["self"] (uL K t.C_Parting):=by
 have G_114:=@yw P w K mg base t T;refine T.d_113.F.ok Gz ∅ ?_;rintro cdv A outer s H vs Q E hr ⟨p,rfl,N,bl,B,hP,hl,q⟩;obtain ⟨dx,ob⟩:=hP.ob;obtain ⟨xs,hbl,hxs⟩:=hP.bs;refine ⟨_,
   (XSs.h
   (aj
    (aw (aW T.c_Parting.cl T.d_114 G_114 hr.m (yqv 0 vl) (aa (aE (aa (aI ac) (aa (aE (aa aH ac)) ac))) ac))))),?_⟩
 rw [show aP _ [V.ref p]=[some (.ref p)] from rfl];rwa [D6];refine bQ ob rfl ?_;intro a ha e he q0 hq0;obtain ⟨sm,hb⟩:=fQ (K:=K) (ed:=.stop) (ds:=[]) hbl (hP.nw _ ha) ha .nil he hq0;exact zAQ N bl B _ (hP.same sm) hb hl fun H' sx hP'=>q H' ((SameX.of sm).trans sx) hP'
theorem zC{n:Nat}{a b:Addr}{vs:List V}(ha:H a=some (.lst vs))(hb:H b=some (.lst [])):Rq K H n (.ref a) (.ref b) (decide (vs=[])):=by
 cases vs with
 |nil=>
  have z:=Rq.lists (n:=n) (fun _=>true) (SqL.of (K:=K) ha) (SqL.of hb) rfl fun j x y hx _=>by simp at hx
  exact z
 |cons x r=>rw [bh (by intro z;cases z)];exact .lens (SqL.of ha) (SqL.of hb) Jll
theorem rH(T:Txt K mg t):FnOk P w K mg base CX0 2 t.f_115 t.e_115 ["self","block"] (zW K t.C_Parting):=by
 have G_114:=@yw P w K mg base t T;refine T.d_115.F.ok GE ∅ ?_;rintro cdv A outer s H vs Q E hr ⟨p,x,rfl,N,bl,B,b,hP,hb,hl,q⟩;obtain ⟨dx,ob⟩:=hP.ob;obtain ⟨qb,a,e,vs,rfl,h1,h2,h3,h4,h5⟩:=id hb;refine ⟨_,
   (XSs.h
   (ai
    (aL (bR (cC (ap (mO (n:=0) (jI Jkm hr)) (ak ar (yqv 1 vl) af) (aI ac) (aA _)) (ck (ap bu (ak ar (ak ar (yqv 1 vl) af) af) aH (aA _)))))
     (aj
      (aw (ak ar (ak ar (yqv 1 vl) af) af)))
     aC)
   (aj
    (aw (aW T.c_Parting.cl T.d_114 G_114 hr.m (yqv 0 vl) (aa (yqv 1 vl) ac)))))),?_⟩
 rw [show aP _ [V.ref p,V.ref qb]=[some (.ref p),some (.ref qb)] from rfl];rwa [D6];refine zAA _ _ (SqT.of h1) rfl fun p0 hp0=>?_;have t0:=Same.upd (o:=.lst []) hp0;refine zn _ (zC (t0 _ _ h2) ae) (zn _ rfl ?_);have lv:=h3.length;have num:(FZ.aB b B)=(B.length,B++[b])->mj t.C_Parting (Str.ofString "numbered") (V.ref p) (upd H p0 (HO.lst [])) (qO K t.C_Parting p (V.ref qb) (upd H p0 (HO.lst [])) Q):=fun ew=>by refine bQ (t0 _ _ ob) rfl (zAQ N bl B b (hP.same t0) (hb.same t0) hl fun H' sx hP'=>?_);rw [ew] at q;exact q H' ((SameX.of t0).trans sx) hP'
 obtain ⟨ds,ed⟩:=b
 cases ds with
 |cons d r=>
  have hne:¬vs=[]:=fun z=>by rw [z] at lv;simp at lv
  rw [bh hne,zq1 bz];exact num rfl
 |nil=>
  have hnil:vs=[]:=zq66.mp lv;rw [bC hnil,zq2 rfl];have h40:=t0 _ _ h4;refine zAA _ _ (SqT.of (t0 _ _ h1)) rfl ?_
  cases ed with
  |stop=>
   rwa [];refine zAD _ _ (SqT.of h40) rfl rfl (zn _ rfl ?_);rw [bh (by intro z;exact absurd (V.str.inj z) Jkk),zq1 bz];exact num rfl
  |go i=>
   rwa [];refine zAD _ _ (SqT.of h40) rfl rfl (zn _ rfl ?_);rw [bC rfl,zq2 rfl];refine zAA _ _ (SqT.of (t0 _ _ h1)) rfl ?_;rwa [];exact zAA _ _ (SqT.of h40) rfl (q _ (SameX.of t0) (hP.same t0))
  |choose n i j=>rwa [];refine zAD _ _ (SqT.of h40) rfl rfl (zn _ rfl ?_);rw [bh (by intro z;exact absurd (V.str.inj z) Jkk),zq1 bz];exact num rfl
variable {H:Hp} {f:List Addr} {i:Nat} {ss:List Stm} {x:V}
def tm(K:W.Frag)(C:Addr)(d:Nat)(p a:Addr)(x:V)(H:Hp)(Q:VK):Prop:=∃(N:Addr->Prop)(bl:Addr)(B:List FZ.Blk)(b:FZ.Blk)(rs:List V)(ss:List Stm)(f:List Addr),PartAt K C N H p bl B/\BlkV K N H bl x b/\H a=some (.lst rs)/\StmsV K H rs ss f/\a≠bl/\bl∉f/\bA ss<d/\B.length+3 * aS ss<4000/\b.ds.length<=8/\
 ∀y H',SameX bl H H'->PartAt K C N H' p bl (FZ.aM ss b B).2->BlkV K N H' bl y (FZ.aM ss b B).1->(FZ.aM ss b B).1.ds.length<=8->Q y H'
def i8(K:W.Frag)(C:Addr)(d:Nat):Sp:=fun vs H Q _=>∃(p a:Addr)(x:V),vs=[.ref p,.ref a,x]/\tm K C d p a x H Q
def tw(K:W.Frag)(C:Addr)(d:Nat)(ok:Stm->Prop)(p:Addr)(r x:V)(H:Hp)(Q:VK):Prop:=∃(N:Addr->Prop)(bl:Addr)(B:List FZ.Blk)(b:FZ.Blk)(st:Stm)(f:List Addr),PartAt K C N H p bl B/\BlkV K N H bl x b/\StmV K H r st f/\ok st/\bl∉f/\st.deep<d/\B.length+3 * st.many<4000/\b.ds.length<=8/\
 ∀y H',SameX bl H H'->PartAt K C N H' p bl (FZ.bU st b B).2->BlkV K N H' bl y (FZ.bU st b B).1->(FZ.bU st b B).1.ds.length<=8->Q y H'
def dE(K:W.Frag)(C:Addr)(d:Nat)(ok:Stm->Prop):Sp:=fun vs H Q _=>∃(p:Addr)(r x:V),vs=[.ref p,r,x]/\tw K C d ok p r x H Q
def HD:Stm->Prop
 | .ifs _ _ _=>True
 |_=>False
def HE:Stm->Prop
 | .whl _ _=>True
 |_=>False
theorem fG{C p a:Addr}{d:Nat}{Q:VK}{E:XK}:i8 K C d [.ref p,.ref a,x] H Q E=tm K C d p a x H Q:=propext ⟨by rintro ⟨_,_,_,e,q⟩;cases e;exact q,fun q=>zAK _ _ _ rfl q⟩
theorem f7{C p:Addr}{d:Nat}{ok:Stm->Prop}{r:V}{Q:VK}{E:XK}:dE K C d ok [.ref p,r,x] H Q E=tw K C d ok p r x H Q:=propext ⟨by rintro ⟨_,_,_,e,q⟩;cases e;exact q,fun q=>zAK _ _ _ rfl q⟩
theorem fM{s:Stm}(h:ss.reverse[i]?=some s):ss.drop (ss.length-(i+1))=s::ss.drop (ss.length-i):=by
 obtain ⟨hi,e⟩:=zq7.mp h;rw [List.length_reverse] at hi;rw [List.getElem_reverse] at e;have h1:ss.length-(i+1)<ss.length:=by omega
 rw [List.drop_eq_getElem_cons h1,show ss.length-(i+1)+1=ss.length-i by omega];congr 1;rw [<- e];congr 1;omega
theorem zY{xs:List V}(h:StmsV K H xs ss f)(hx:xs.reverse[i]?=some x):∃s g,ss.reverse[i]?=some s/\s∈ss/\StmV K H x s g/\∀c∈g,c∈f:=by have lx:=h.length;obtain ⟨hi,e⟩:=zq7.mp hx;rw [List.length_reverse] at hi;rw [List.getElem_reverse] at e;obtain ⟨s,g,h1,h2,h3⟩:=h.get (i:=xs.length-1-i) (x:=x) (by rw [zq5 Jlk,e]);refine zAD s g ?_ (bg h1) h2 h3;rw [E7 Jlk,<- lx];exact h1
theorem GR{H':Hp}{bl:Addr}{ys:List V}{st:Stm}(h:StmV K H x st f)(s:SameX bl H H')(hb:H bl=some (.lst ys))(hf:bl∉f):StmV K H' x st f:=
 h.keep (SameX.tsL2 s hb) fun a ha o e=>s a o e (fun z=>hf (z ▸ ha))
theorem mY{H':Hp}{bl:Addr}{xs ys:List V}(h:StmsV K H xs ss f)(s:SameX bl H H')(hb:H bl=some (.lst ys))(hf:bl∉f):StmsV K H' xs ss f:=
 h.keep (SameX.tsL2 s hb) fun a ha o e=>s a o e (fun z=>hf (z ▸ ha))
theorem w6{s:Stm}(h:ss.reverse[i]?=some s):s.many+aS (ss.drop (ss.length-i))<=aS ss:=by
 have e:=congrArg aS (fM h);rw [aS] at e;have e2:aS ss=aS (ss.take (ss.length-(i+1)))+aS (ss.drop (ss.length-(i+1))):=by rw [<- dy,Ee]
 omega
theorem lV(T:Txt K mg t)(d:Nat)(G_117:FnOk P w K mg base CX0 (3 * d+3) t.f_117 t.e_117 ["self","row","block"] (dE K t.C_Parting d fun _=>True)):FnOk P w K mg base CX0 (3 * d+4) t.f_116 t.e_116 ["self","rows","block"] (i8 K t.C_Parting d):=by
 refine T.d_116.F.ok sc_116 ∅ ?_;rintro cdv A outer s H vs Q E hr ⟨p,a,x,rfl,N,bl,B,b,rs,ss,f,hP,hb,ha,hx,nab,nbf,hd,hm,h8,q⟩;have lx:=hx.length;obtain ⟨xs0,hbl0,_⟩:=hP.bs;refine ⟨_,
   (XSs.h
   (ai
    (b8 PassesOwn.never rfl (CO T.z_reversed (aa (yqv 1 vl) ac) gl) (av (i:=3) sc_116.nd rfl ll)
     (aj
      (aq (i:=2) sc_116.nd rfl ll (aW T.c_Parting.cl T.d_117 G_117 hr.m (yqv 0 vl) (aa (yqv 3 vl) (aa (yqv 2 vl) ac))))))
   (aj
    (aw (yqv 2 vl))))),?_⟩
 rw [show aP _ [V.ref p,V.ref a,x]=[some (.ref p),some (.ref a),some x,none] from rfl];rwa [f7];refine zn rs (SqL.of ha) ?_;refine EC (fun i σ H'=>SameX bl H H'/\∃y o3,PartAt K t.C_Parting N H' p bl (FZ.aM (ss.drop (ss.length-i)) b B).2/\BlkV K N H' bl y (FZ.aM (ss.drop (ss.length-i)) b B).1/\(FZ.aM (ss.drop (ss.length-i)) b B).1.ds.length<=8/\σ=[some (.ref p),some (.ref a),some y,o3])
  ⟨SameX.refl,zAD x none ?_ ?_ ?_ rfl⟩ (fun i σ H' _ h=>SqL.of (h.1 _ _ ha nab)) ?_ ?_
 ·rw [qo,AL,FZ.aM];exact hP
 ·rw [qo,AL,FZ.aM];exact hb
 ·rw [qo,AL,FZ.aM];exact h8
 ·rintro i r σ H1 hri ⟨s1,y,o3,hP1,hb1,l1,rfl⟩;rwa [f7];obtain ⟨st,g',hst,hms,hv,hsub⟩:=zY hx hri;have hdm:=lj hms;have hmd:=w6 hst;have hol:=FZ.cB (ss.drop (ss.length-i)) b B;obtain ⟨dx,ob1⟩:=hP1.ob;refine bQ ob1 rfl ?_;refine zAS N bl _ _ st g' (zBC hP1 hb1 (GR hv s1 hbl0 (fun z=>nbf (hsub bl z))) trivial (fun z=>nbf (hsub bl z)) Jlk Jlk l1 fun y2 H2 s2 hP2 hb2 l2=>?_);refine ⟨s1.trans s2,zAD y2 _ ?_ ?_ ?_ rfl⟩
  ·rw [fM hst,FZ.aM];exact hP2
  ·rw [fM hst,FZ.aM];exact hb2
  ·rw [fM hst,FZ.aM];exact l2
 ·rintro σ H1 ⟨s1,y,o3,hP1,hb1,l1,rfl⟩;rw [lx,nA,Ay] at hP1 hb1 l1;rwa [];exact q y H1 s1 hP1 hb1 l1
theorem xD{N:Addr->Prop}{H:Hp}{bl a e q:Addr}{ed:FZ.Ed}{vs:List V}{ds:List Deed}(ha:H a=some (.lst vs))(nab:a≠bl)(hn:N a)(hv:Paired (DeedV1 K H) vs ds)(he:H e=none)(hq:upd H e (.tup (d8 ed)) q=none):
  Same H (upd (upd H e (.tup (d8 ed))) q (.tup [.ref a,.ref e]))/\BlkV K N (upd (upd H e (.tup (d8 ed))) q (.tup [.ref a,.ref e])) bl (.ref q) ⟨ds,ed⟩:=by
 have t2:=Same.upd (o:=.tup (d8 ed)) he;have t3:=Same.upd (o:=.tup [V.ref a,V.ref e]) hq;have s:=t2.trans t3;exact ⟨s,zAY q a e vs rfl ae (t3 _ _ (t2 _ _ ha)) (FL.Paired.imp hv fun y _ d _ z=>z.ts s.ts) (t3 _ _ ae) nab hn⟩
theorem By(T:Txt K mg t)(d:Nat)(G_116:FnOk P w K mg base CX0 (3 * d+4) t.f_116 t.e_116 ["self","rows","block"] (i8 K t.C_Parting d)):FnOk P w K mg base CX0 (3 * d+5) t.f_118 t.e_118 ["self","row","block"] (dE K t.C_Parting (d+1) HD):=by
 have G_115:=@rH P w K mg base t T;refine T.d_118.F.ok sc_118 ∅ ?_;rintro cdv A outer s H vs Q E hr ⟨p,r,x,rfl,N,bl,B,b,st,f,hP,hb,hv,hok,nbf,hd,hm,h8,q⟩;refine ⟨_,
   (XSs.h
   (ai
    (aq (i:=3) sc_118.nd rfl ll (aE (aa (aI ac) (aa (aE (aa aH (aa (aW T.c_Parting.cl T.d_115 G_115 hr.m (yqv 0 vl) (aa (yqv 2 vl) ac)) ac))) ac))))
   (ai
    (aq (i:=4) sc_118.nd rfl ll (aW T.c_Parting.cl T.d_115 G_115 hr.m (yqv 0 vl) (aa (aW T.c_Parting.cl T.d_116 G_116 hr.m (yqv 0 vl) (aa (ak ar (yqv 1 vl) af) (aa (yqv 3 vl) ac))) ac)))
   (ai
    (aq (i:=5) sc_118.nd rfl ll (aW T.c_Parting.cl T.d_115 G_115 hr.m (yqv 0 vl) (aa (aW T.c_Parting.cl T.d_116 G_116 hr.m (yqv 0 vl) (aa (ak ar (yqv 1 vl) af) (aa (yqv 3 vl) ac))) ac)))
   (aj
    (aw (aE (aa (aI ac) (aa (aE (aa aH (aa (ak ar (yqv 1 vl) af) (aa (yqv 4 vl) (aa (yqv 5 vl) ac))))) ac))))))))),?_⟩
 rw [show aP _ [V.ref p,r,x]=[some (.ref p),some r,some x,none,none,none] from rfl]
 cases hv with
 | @deed q0 dd hf hq=>exact absurd hok id
 | @whl q0 a1 n xs1 rows f1 hq ha1 h1=>exact absurd hok id
 | @ifs q0 a1 c1 n xs1 ys1 ones others f1 g1 hq ha1 hc1 h1 h2=>simp only [Stm.deep,Stm.many] at hd hm;obtain ⟨xs0,hbl0,_⟩:=hP.bs;have na1:a1≠bl:=fun z=>nbf (by rw [<- z];simp);have nc1:c1≠bl:=fun z=>nbf (by rw [<- z];simp);have nf1:bl∉f1:=fun z=>nbf (by simp [z]);have ng1:bl∉g1:=fun z=>nbf (by simp [z]);obtain ⟨dx,ob⟩:=hP.ob;rw [FZ.bU] at q;dsimp only at q;rwa [i5,fG];intro a0 ha0;have t0:=Same.upd (o:=.lst []) ha0;have nab0:a0≠bl:=(am hbl0 ha0).symm;refine bQ (t0 _ _ ob) rfl (zAQ N bl B b (hP.same t0) (hb.same t0) Jlk fun H1 sx1 hP1=>?_);have gw:=FZ.bw b B;generalize FZ.aB b B=w0 at *;have ea0:H1 a0=some (.lst []):=sx1 _ _ ae nab0;have sx01:=(SameX.of (p:=bl) t0).trans sx1;intro e0 he0 q1 hq1;obtain ⟨sb,hbb⟩:=xD (K:=K) (ed:=.go w0.1) (ds:=[]) ea0 nab0 (hP.nw _ ha0) .nil he0 hq1;have hPG:=hP1.same sb;have sxG:=sx01.trans (SameX.of (p:=bl) sb);rw [show d8 (.go w0.1)=[V.str "go",V.int w0.1] from rfl] at sb hbb hPG sxG;generalize upd (upd H1 e0 _) q1 _=G at sb hbb hPG sxG ⊢;obtain ⟨dxG,obG⟩:=hPG.ob;obtain ⟨xsG,hblG,_⟩:=hPG.bs;refine bQ obG rfl (bQ obG rfl (zAA _ _ ((SameX.tsL2 sxG hbl0).seqT hq) rfl ?_));rwa [fG];have lo1:=FZ.cB ones ⟨[],.go w0.1⟩ w0.2;refine zBJ N bl w0.2 ⟨[],.go w0.1⟩ xs1 ones f1 hPG hbb (sxG _ _ ha1 na1) (mY h1 sxG hbl0 nf1) na1 nf1 Jlk Jlk (bT _) fun y2 H3 s3 hP3 hb3 l3=>?_;generalize FZ.aM ones ⟨[],.go w0.1⟩ w0.2=o at *;have gw2:=FZ.bw o.1 o.2;refine zAQ N bl _ _ hP3 hb3 Jlk fun H4 s4 hP4=>?_;generalize FZ.aB o.1 o.2=wo at *;have sxG4:=s3.trans s4;have sx4:=sxG.trans sxG4;obtain ⟨dx4,ob4⟩:=hP4.ob;obtain ⟨xs4,hbl4,_⟩:=hP4.bs;refine bQ ob4 rfl (bQ ob4 rfl (zAA _ _ ((SameX.tsL2 sx4 hbl0).seqT hq) rfl ?_));rwa [fG];have lo2:=FZ.cB others ⟨[],.go w0.1⟩ wo.2;refine zBJ N bl wo.2 ⟨[],.go w0.1⟩ ys1 others g1 hP4 (hbb.sx sxG4 hblG) (sx4 _ _ hc1 nc1) (mY h2 sx4 hbl0 ng1) nc1 ng1 Jlk Jlk (bT _) fun y5 H5 s5 hP5 hb5 l5=>?_;generalize FZ.aM others ⟨[],.go w0.1⟩ wo.2=o2 at *;refine zAQ N bl _ _ hP5 hb5 Jlk fun H6 s6 hP6=>?_;generalize FZ.aB o2.1 o2.2=wp at *;have sx6:=sx4.trans (s5.trans s6);obtain ⟨xs6,hbl6,_⟩:=hP6.bs;intro a7 ha7;have t7:=Same.upd (o:=.lst []) ha7;refine zAA _ _ ((SameX.tsL2 sx6 hbl0 |>.trans t7.ts).seqT hq) rfl fun e7 he7 q7 hq7=>?_;obtain ⟨sm,hb7⟩:=fQ (K:=K) (ed:=.choose n wo.1 wp.1) (ds:=[]) hbl6 (hP6.nw _ ha7) ha7 .nil he7 hq7;exact q _ _ (sx6.trans (SameX.of sm)) (hP6.same sm) hb7 (bT _)
theorem CK(T:Txt K mg t)(d:Nat)(G_116:FnOk P w K mg base CX0 (3 * d+4) t.f_116 t.e_116 ["self","rows","block"] (i8 K t.C_Parting d)):FnOk P w K mg base CX0 (3 * d+5) t.f_119 t.e_119 ["self","row","block"] (dE K t.C_Parting (d+1) HE):=by
 have G_115:=@rH P w K mg base t T;have G_113:=@uf P w K mg base t T;refine T.d_119.F.ok sc_119 ∅ ?_;rintro cdv A outer s H vs Q E hr ⟨p,r,x,rfl,N,bl,B,b,st,f,hP,hb,hv,hok,nbf,hd,hm,h8,q⟩;refine ⟨_,
   (XSs.h
   (ai
    (aq (i:=3) sc_119.nd rfl ll (aW T.c_Parting.cl T.d_115 G_115 hr.m (yqv 0 vl) (aa (yqv 2 vl) ac)))
   (ai
    (aq (i:=4) sc_119.nd rfl ll (kC T.c_Parting.cl T.d_113 G_113 hr.m (yqv 0 vl)))
   (ai
    (aq (i:=5) sc_119.nd rfl ll (aW T.c_Parting.cl T.d_115 G_115 hr.m (yqv 0 vl) (aa (aW T.c_Parting.cl T.d_116 G_116 hr.m (yqv 0 vl) (aa (ak ar (yqv 1 vl) af) (aa (aE (aa (aI ac) (aa (aE (aa aH (aa (yqv 4 vl) ac))) ac))) ac))) ac)))
   (ai
    (fZ (aE (aa (aI ac) (aa (aE (aa aH (aa (ak ar (yqv 1 vl) af) (aa (yqv 5 vl) (aa (yqv 3 vl) ac))))) ac))) (ni (cH (yqv 0 vl) rfl) (yqv 4 vl) kg))
   (aj
    (aw (aE (aa (aI ac) (aa (aE (aa aH (aa (yqv 4 vl) ac))) ac)))))))))),?_⟩
 rw [show aP _ [V.ref p,r,x]=[some (.ref p),some r,some x,none,none,none] from rfl]
 cases hv with
 | @deed q0 dd hf hq=>exact absurd hok id
 | @ifs q0 a1 c1 n xs1 ys1 ones others f1 g1 hq ha1 hc1 h1 h2=>exact absurd hok id
 | @whl q0 a1 n xs1 rows f1 hq ha1 h1=>
  simp only [Stm.deep,Stm.many] at hd hm;obtain ⟨xs0,hbl0,_⟩:=hP.bs;have na1:a1≠bl:=fun z=>nbf (by rw [<- z];simp);have nf1:bl∉f1:=fun z=>nbf (by simp [z]);obtain ⟨dx,ob⟩:=hP.ob;rw [FZ.bU] at q;dsimp only at q;rwa [i5,fG,mU];refine bQ ob rfl (zAQ N bl B b hP hb Jlk fun H1 sx1 hP1=>?_);have gw:=FZ.bw b B;generalize FZ.aB b B=w0 at *;obtain ⟨dx1,ob1⟩:=hP1.ob;refine bQ ob1 rfl ?_;refine zAN N bl w0.2 hP1 Jlk fun H2 sx2 hP2=>?_;have sx02:=sx1.trans sx2;obtain ⟨dx2,ob2⟩:=hP2.ob;obtain ⟨xs2,hbl2,_⟩:=hP2.bs;refine bQ ob2 rfl (bQ ob2 rfl (zAA _ _ ((SameX.tsL2 sx02 hbl0).seqT hq) rfl fun a3 ha3 e3 he3 q3 hq3=>?_));obtain ⟨sm,hb3⟩:=fQ (K:=K) (ed:=.go w0.2.length) (ds:=[]) hbl2 (hP2.nw _ ha3) ha3 .nil he3 hq3;rw [show d8 (.go w0.2.length)=[V.str "go",V.int w0.2.length] from rfl] at sm hb3;have hP3:=hP2.same sm;have sx03:=sx02.trans (SameX.of (p:=bl) sm);rwa [fG];have lo:=FZ.cB rows ⟨[],.go w0.2.length⟩ (w0.2++[⟨[],.stop⟩]);have go:=FZ.bG rows ⟨[],.go w0.2.length⟩ (w0.2++[⟨[],.stop⟩]);rw [zq8,bV] at lo go;refine zBJ N bl (w0.2++[(⟨[],.stop⟩:FZ.Blk)]) ⟨[],.go w0.2.length⟩ xs1 rows f1 hP3 hb3 (sx03 _ _ ha1 na1) (mY h1 sx03 hbl0 nf1) na1 nf1 Jlk (by rw [zq8,bV];omega) (bT _) fun y4 H4 s4 hP4 hb4 l4=>?_;generalize FZ.aM rows ⟨[],.go w0.2.length⟩ (w0.2++[⟨[],.stop⟩])=o at *;have gw2:=FZ.bw o.1 o.2;refine zAQ N bl _ _ hP4 hb4 Jlk fun H5 s5 hP5=>?_;generalize FZ.aB o.1 o.2=wo at *;have sx05:=sx03.trans (s4.trans s5);intro a6 ha6;have t6:=Same.upd (o:=.lst []) ha6;refine zAA _ _ ((SameX.tsL2 sx05 hbl0 |>.trans t6.ts).seqT hq) rfl fun e6 he6 q6 hq6=>?_;obtain ⟨xs5,hbl5,_⟩:=hP5.bs;obtain ⟨sm6,hb6⟩:=fQ (K:=K) (ed:=.choose n wo.1 w0.1) (ds:=[]) hbl5 (hP5.nw _ ha6) ha6 .nil he6 hq6;rw [show d8 (.choose n wo.1 w0.1)=[V.str "choose",V.str n,V.int wo.1,V.int w0.1] from rfl] at sm6 hb6;have hP6:=hP5.same sm6;have sx06:=sx05.trans (SameX.of (p:=bl) sm6);generalize upd (upd (upd H5 a6 _) e6 _) q6 _=G at sm6 hb6 hP6 sx06 ⊢;obtain ⟨dx6,ob6⟩:=hP6.ob;obtain ⟨xs6,hbl6,hxs6⟩:=hP6.bs;have lx6:=hxs6.length;refine j3 ob6 T.c_Parting.cl T.n_Parting_blocks rfl ?_;have sx67:SameX bl G (upd G bl (.lst (xs6.set w0.2.length (.ref q6)))):=SameX.upd;refine zAM bl xs6 _ w0.2.length rfl rfl hbl6 (FL.mF Jlk) ?_;have hP7:PartAt K t.C_Parting N (upd G bl (.lst (xs6.set w0.2.length (.ref q6)))) p bl (wo.2.set w0.2.length ⟨[],.choose n wo.1 w0.1⟩):=
   ⟨⟨dx6,sx67 _ _ ob6 hP6.ne⟩,fun c hc=>hP6.nw c (da hc),_,ae,FL.Paired.put (hb6.sx sx67 hbl6) _ (FL.Paired.imp hxs6 fun y _ c _ h=>h.sx sx67 hbl6)⟩
  have sx07:=sx06.trans sx67;generalize upd G bl _=G2 at hP7 sx07 ⊢;intro a8 ha8 e8 he8 q8 hq8;obtain ⟨xs7,hbl7,_⟩:=hP7.bs;obtain ⟨sm8,hb8⟩:=fQ (K:=K) (ed:=.go w0.2.length) (ds:=[]) hbl7 (hP7.nw _ ha8) ha8 .nil he8 hq8;exact q _ _ (sx07.trans (SameX.of sm8)) (hP7.same sm8) hb8 (bT _)
theorem zB(T:Txt K mg t)(d:Nat)(G_118:FnOk P w K mg base CX0 (3 * d+5) t.f_118 t.e_118 ["self","row","block"] (dE K t.C_Parting (d+1) HD)) (G_119:FnOk P w K mg base CX0 (3 * d+5) t.f_119 t.e_119 ["self","row","block"] (dE K t.C_Parting (d+1) HE)):FnOk P w K mg base CX0 (3 * (d+1)+3) t.f_117 t.e_117 ["self","row","block"] (dE K t.C_Parting (d+1) fun _=>True):=by
 have G_115:=@rH P w K mg base t T;refine T.d_117.F.ok GF ∅ ?_;rintro cdv A outer s H vs Q E hr ⟨p,r,x,rfl,N,bl,B,b,st,f,hP,hb,hv,hok,nbf,hd,hm,h8,q⟩;obtain ⟨dx,ob⟩:=hP.ob;obtain ⟨xs0,hbl0,_⟩:=hP.bs;refine ⟨_,
   (XSs.h
   (ai
    (aL (ap bu (ak ar (yqv 1 vl) af) aH (aA _))
     (aj
      (aw (aW T.c_Parting.cl T.d_118 G_118 hr.m (yqv 0 vl) (aa (yqv 1 vl) (aa (yqv 2 vl) ac)))))
     aC)
   (ai
    (aL (ap bu (ak ar (yqv 1 vl) af) aH (aA _))
     (aj
      (aw (aW T.c_Parting.cl T.d_119 G_119 hr.m (yqv 0 vl) (aa (yqv 1 vl) (aa (yqv 2 vl) ac)))))
     aC)
   (ai
    (aL (ap bu (aD aF gl T.z_len PySem.boot_len (aa (ak ar (yqv 2 vl) af) ac)) (Ao (v:=.int 8) gl T.g_MOST_DEEDS ⟨_,rfl⟩) (aA _))
     (aj
      (aw (aE (aa (aI (aa (yqv 1 vl) ac)) (aa (aE (aa aH (aa (aW T.c_Parting.cl T.d_115 G_115 hr.m (yqv 0 vl) (aa (yqv 2 vl) ac)) ac))) ac)))))
     aC)
   (aj
    (aw (aE (aa (ay f6 (aI (aa (yqv 1 vl) ac)) (ak ar (yqv 2 vl) af)) (aa (ak ar (yqv 2 vl) af) ac))))))))),?_⟩
 rw [show aP _ [V.ref p,r,x]=[some (.ref p),some r,some x] from rfl];have hv0:=hv
 cases hv with
 | @ifs q0 a1 c1 n xs1 ys1 ones others f1 g1 hq ha1 hc1 h1 h2=>
  rwa [f7,i5];refine zAA _ _ hq rfl ?_;rwa [f7,i5];refine aU (fun _=>bQ ob rfl (zAS N bl B b _ _ (zBC hP hb hv0 trivial nbf hd hm h8 q))) (fun z=>absurd trivial z)
 | @whl q0 a1 n xs1 rows f1 hq ha1 h1=>
  rwa [f7,i5];refine zAA _ _ hq rfl ?_;rwa [f7,i5];refine aU (fun z=>absurd z Jkk) (fun _=>zAA _ _ hq rfl ?_);rwa [f7,i5];refine aU (fun _=>bQ ob rfl (zAS N bl B b _ _ (zBC hP hb hv0 trivial nbf hd hm h8 q))) (fun z=>absurd trivial z)
 | @deed q0 dd hf hq=>
  rwa [f7,i5];refine tK hf hq Jkk Jkk Jkk (zn _ rfl ?_);rw [zq1 bz];refine tK hf hq Jkk Jkk Jkk (zn _ rfl ?_);rw [zq1 bz];obtain ⟨qb,ab,eb,vs,rfl,b1,b2,b3,b4,b5,b6⟩:=id hb;have lv:=b3.length;rw [FZ.bU] at q;simp only [Stm.many] at hm;rwa [f7,i5];refine zAA _ _ (SqT.of b1) rfl (zAA ab vs rfl (.inl (SqL.of b2)) ?_)
  by_cases c8:b.ds.length=8
  ·rw [zq2 c8] at q;rw [zq2 (by rw [lv,c8];rfl)];intro a1 ha1;have t1:=Same.upd (o:=.lst [V.ref q0]) ha1;have n1:a1≠bl:=(am hbl0 ha1).symm;refine bQ (t1 _ _ ob) rfl (zAQ N bl B b (hP.same t1) (hb.same t1) Jlk fun H2 s2 hP2=>?_);have sx2:=(SameX.of (p:=bl) t1).trans s2;intro e3 he3 q3 hq3;obtain ⟨sm,hb3⟩:=xD (K:=K) (ed:=.go (FZ.aB b B).1) (ds:=[dd]) (s2 _ _ ae n1) n1 (hP.nw _ ha1) (.cons (zAC q0 rfl ((SameX.tsL2 sx2 hbl0).seqT hq) hf) .nil) he3 hq3;exact q _ _ (sx2.trans (SameX.of sm)) (hP2.same sm) hb3 Jll
  ·rw [zq1 c8] at q;rw [zq1 (by rw [lv];simp;omega)];intro a1 ha1;have t1:=Same.upd (o:=.lst [V.ref q0]) ha1;have n1:ab≠a1:=am b2 ha1;refine zAA _ _ (SqT.of (t1 _ _ b1)) rfl (zBB a1 ab _ _ rfl rfl ae (t1 _ _ b2) (by rw [b9,bV];omega) fun a2 ha2=>?_);have t2:=Same.upd (o:=.lst ([V.ref q0]++vs)) ha2;have t12:=t1.trans t2;refine zAA _ _ (SqT.of (t12 _ _ b1)) rfl fun q3 hq3=>?_;have t3:=Same.upd (o:=.tup [V.ref a2,V.ref eb]) hq3;have t13:=t12.trans t3;have n2:a2≠bl:=(am (t1 _ _ hbl0) ha2).symm;refine q _ _ (SameX.of t13) (hP.same t13) (zAY q3 a2 eb _ rfl ae (t3 _ _ ae) ?_ (t13 _ _ b4) n2 (hP.nw _ (t1.free ha2))) (by rw [d5];omega);exact .cons (zAC q0 rfl (t13.ts.seqT hq) hf) (FL.Paired.imp b3 fun y _ c _ z=>z.ts t13.ts)
def pR(C:Addr):Sp:=fun vs H Q _=>∃(p:Addr)(dx:Addr),vs=[.ref p]/\H p=some (.ins C dx [])/\∀bl,H bl=none->Q .non (upd (upd H bl (.lst [])) p (.ins C dx [("blocks",.ref bl)]))
def kS(K:W.Frag)(C:Addr)(d:Nat)(p:Addr)(H:Hp)(Q:VK):Prop:=∃(wd:Int)(ins oth:List Str)(ss:List Stm)(a b r:Addr)(ys:List V)(g:List Addr),qL K C H p wd ins oth ss a b r ys g/\bA ss<d/\3 * aS ss<3900/\
 ∀bl xs H',Same H H'->H bl=none->H' bl=some (.lst xs)->Paired (BlkV K (fun c=>H c=none) H' bl) xs (FZ.aY ss)->Q (.ref bl) H'
def m4(K:W.Frag)(C:Addr)(d:Nat):Sp:=fun vs H Q _=>∃p:Addr,vs=[.ref p]/\kS K C d p H Q
theorem zb{C p:Addr}{d:Nat}{H:Hp}{Q:VK}{E:XK}:m4 K C d [.ref p] H Q E=kS K C d p H Q:=propext ⟨by rintro ⟨_,e,q⟩;cases e;exact q,fun q=>zn _ rfl q⟩
theorem Cu{C p:Addr}{H:Hp}{Q:VK}{E:XK}:pR C [.ref p] H Q E=∃dx,H p=some (.ins C dx [])/\∀bl,H bl=none->Q .non (upd (upd H bl (.lst [])) p (.ins C dx [("blocks",.ref bl)])):=propext ⟨by rintro ⟨_,dx,e,q⟩;cases e;exact ⟨dx,q⟩,fun ⟨dx,q⟩=>zAE _ dx rfl q⟩
theorem yx(T:Txt K mg t):FnOk P w K mg base CX0 1 t.f_112 t.e_112 ["self"] (pR t.C_Parting):=by
 refine T.d_112.F.ok Gy ∅ ?_;rintro cdv A outer s H vs Q E hr ⟨p,dx,rfl,hp,q⟩;refine ⟨_,
   (XSs.h
   (aj
    (eA (yqv 0 vl) (aI ac) rfl))),?_⟩
 rw [show aP _ [V.ref p]=[some (.ref p)] from rfl];rwa [];intro bl hbl;have np:p≠bl:=am hp hbl;refine oC (by rw [ao np];exact hp) T.c_Parting.cl T.n_Parting_blocks Jll ?_;rw [eM Jlm,qu];exact q bl hbl
theorem jU(T:Txt K mg t):∀d,FnOk P w K mg base CX0 (3 * d+3) t.f_117 t.e_117 ["self","row","block"] (dE K t.C_Parting d fun _=>True)/\FnOk P w K mg base CX0 (3 * d+4) t.f_116 t.e_116 ["self","rows","block"] (i8 K t.C_Parting d)
 |0=>by
  have h0:FnOk P w K mg base CX0 (3 * 0+3) t.f_117 t.e_117 ["self","row","block"] (dE K t.C_Parting 0 fun _=>True):=⟨fun vs H Q E h=>by obtain ⟨_,_,_,_,_,_,_,_,_,_,_,_,_,_,_,h,_⟩:=h;omega,fun _ _ _ _ _ _ _ _ _ _ _ _ _ h=>by obtain ⟨_,_,_,_,_,_,_,_,_,_,_,_,_,_,_,h,_⟩:=h;omega⟩
  exact ⟨h0,lV T 0 h0⟩
 |d+1=>by have h1:=zB T d (By T d (jU T d).2) (CK T d (jU T d).2);exact ⟨h1,lV T (d+1) h1⟩
theorem wf(T:Txt K mg t)(d:Nat):FnOk P w K mg base CX0 (3 * d+5) t.f_111 t.e_111 ["program"] (m4 K t.C_Program d):=by
 have G_112:=@yx P w K mg base t T;have G_113:=@uf P w K mg base t T;have G_116:=(@jU P w K mg base t T d).2;refine T.d_111.F.ok sc_111 ∅ ?_;rintro cdv A outer s H vs Q E hr ⟨p,rfl,wd,ins,oth,ss,a,b,r,ys,g,hP,hd,hm,q⟩;refine ⟨_,
   (XSs.h
   (ai
    (aq (i:=1) sc_111.nd rfl ll (sG T.c_Parting T.d_112 G_112 hr.m gl))
   (ai
    (aq (i:=2) sc_111.nd rfl ll (kC T.c_Parting.cl T.d_113 G_113 hr.m (yqv 1 vl)))
   (ai
    (fZ (aW T.c_Parting.cl T.d_116 G_116 hr.m (yqv 1 vl) (aa (cH (yqv 0 vl) rfl) (aa (aE (aa (aI ac) (aa (aE (aa aH ac)) ac))) ac))) (ni (cH (yqv 1 vl) rfl) (yqv 2 vl) kg))
   (aj
    (aw (cH (yqv 1 vl) rfl))))))),?_⟩
 rw [show aP _ [V.ref p]=[some (.ref p),none,none] from rfl];rwa [mU,fG];intro x dx hx hdx hne;rwa [Cu,mU,fG];refine zn dx ae fun bl hbl=>?_;have hbl0:H bl=none:=da (da hbl);have nxb:x≠bl:=am ae hbl;have e2:upd (upd (upd (upd H dx (.own x)) x (.ins t.C_Parting dx [])) bl (.lst [])) x (.ins t.C_Parting dx [("blocks",.ref bl)]) bl=some (.lst []):=by rw [ao nxb.symm];exact ae
 have hQ:PartAt K t.C_Parting (fun c=>H c=none) (upd (upd (upd (upd H dx (.own x)) x (.ins t.C_Parting dx [])) bl (.lst [])) x (.ins t.C_Parting dx [("blocks",.ref bl)])) x bl []:=
  ⟨⟨dx,ae⟩,fun c hc=>da (da (da (da hc))),[],e2,.nil⟩
 have s2:Same H (upd (upd (upd (upd H dx (.own x)) x (.ins t.C_Parting dx [])) bl (.lst [])) x (.ins t.C_Parting dx [("blocks",.ref bl)])):=(((Same.upd hdx).updM hx).updM hbl0).updM hx;generalize upd (upd (upd (upd H dx (.own x)) x (.ins t.C_Parting dx [])) bl (.lst [])) x (.ins t.C_Parting dx [("blocks",.ref bl)])=H2 at *;obtain ⟨dx2,ob2⟩:=hQ.ob;refine bQ ob2 rfl (zAN _ bl ([]) hQ Jkm fun H3 sx3 hP3=>?_);have n0:∀c o,H c=some o->c≠bl:=fun c o e=>am e hbl0;have s3:Same H H3:=fun c o e=>sx3 c o (s2 _ _ e) (n0 c o e);obtain ⟨dx3,ob3⟩:=hP3.ob;obtain ⟨dp,obp⟩:=hP.ob;refine bQ ob3 rfl ?_;refine j3 (s3 _ _ obp) T.c_Program.cl T.n_Program_rows rfl ?_;rwa [mU,fG];intro a4 ha4 e4 he4 q4 hq4;obtain ⟨xs3,hbl3,_⟩:=hP3.bs;obtain ⟨sm,hb4⟩:=fQ (K:=K) (N:=fun c=>H c=none) (ed:=.stop) (ds:=[]) hbl3 (hP3.nw _ ha4) ha4 .nil he4 hq4;rw [show d8 .stop=[V.str "stop"] from rfl] at sm hb4;have hP4:=hP3.same sm;have s4:=s3.trans sm;generalize upd (upd (upd H3 a4 _) e4 _) q4 _=G at sm hb4 hP4 s4 ⊢;have nf:bl∉g:=fun z=>by obtain ⟨zs,hz⟩:=hP.st.tracked bl z;rw [hbl0] at hz;cases hz
 refine zBJ _ bl _ _ ys ss g hP4 hb4 (s4 _ _ hP.rs) (hP.st.same s4) (n0 _ _ hP.rs) nf hd (by simp;omega) Jll fun y H5 sx5 hP5 hb5 _=>?_;rw [qu] at hP5 hb5;have eB:FZ.aY ss=(FZ.aM ss ⟨[],.stop⟩ [⟨[],.stop⟩]).2.set 0 (FZ.aM ss ⟨[],.stop⟩ [⟨[],.stop⟩]).1:=rfl;have ho:=FZ.bG ss ⟨[],.stop⟩ [⟨[],.stop⟩];generalize FZ.aM ss ⟨[],.stop⟩ [⟨[],.stop⟩]=o at *;have s5:Same H H5:=fun c o e=>sx5 c o (s4 _ _ e) (n0 c o e);obtain ⟨dx5,ob5⟩:=hP5.ob;obtain ⟨xs5,hbl5,hxs5⟩:=hP5.bs;have lx5:=hxs5.length;rw [bV] at ho;refine j3 ob5 T.c_Parting.cl T.n_Parting_blocks rfl ?_;refine zAM bl xs5 _ 0 rfl rfl hbl5 (FL.mF (k:=0) Jlk) ?_;have sx6:SameX bl H5 (upd H5 bl (.lst (xs5.set 0 y))):=SameX.upd;refine j3 (sx6 _ _ ob5 hP5.ne) T.c_Parting.cl T.n_Parting_blocks rfl ?_;refine q bl _ _ (fun c o e=>sx6 c o (s5 _ _ e) (n0 c o e)) hbl0 ae ?_;rw [eB];exact FL.Paired.put (hb5.sx sx6 hbl5) _ (FL.Paired.imp hxs5 fun y _ c _ h=>h.sx sx6 hbl5)
theorem tP{o:FB.Opd}:List.map id (List.filter jN [o.v])=o.reads.map V.str:=by cases o<;>rfl
theorem xQ{o p:FB.Opd}:List.map id (List.filter jN [o.v,p.v])=(o.reads++p.reads).map V.str:=by cases o<;>cases p<;>rfl
theorem Bz{o:FB.Opd}{H:Hp}{Q:VK}(h:Q (.bl (jN o.v)) H):z9 K [o.v,.ty "str"] H Q:=by
 cases o with
 |box n=>exact r_isi_str_str.mpr h
 |word i=>exact r_isi_int_str.mpr h
theorem rL{f:Str}(h:f∈FB.opsL):¬f="tell":=by
 rintro rfl
 revert h
 decide +kernel
theorem ix0{d:FB.Deed}{H:Hp}{a:Addr}{Z:V->Hp->Prop}(f:d.fine)(hS:SqT K H a d.vs)(h:Z (.bl d.tells) H):∃xs v,SqT K H a xs/\atI xs 0=some v/\rEq v (.str "tell") H Z:=by
 cases d with
 |tell o=>exact zAD _ _ hS rfl rfl h
 |copy n o=>exact zAD _ _ hS rfl rfl h
 |op g n o p=>refine zAD _ _ hS rfl rfl ?_;have e:decide (V.str g=V.str "tell")=false:=bh (fun z=>rL f (V.str.inj z));rw [e];exact h
def wr(d:FB.Deed):Str:=d.writes.headD ""
theorem J8{d:FB.Deed}(f:d.tells=true):d.writes=[]:=by
 cases d with
 |tell o=>rfl
 |copy n o=>cases f
 |op g n o p=>cases f
def yD:FB.Deed->List FB.Opd
 | .tell a=>[a]
 | .copy _ a=>[a]
 | .op _ _ a b=>[a,b]
def wrV(d:FB.Deed):V:=match d.writes with | []=>.non | n::_=>.str n
def uQ(K:W.Frag):Sp:=fun vs H Q _=>∃(a:Addr)(d:FB.Deed),vs=[.ref a]/\SqT K H a d.vs/\d.fine/\∀p,H p=none->Q (.ref p) (upd H p (.tup ((yD d).map FB.Opd.v)))
def ku(K:W.Frag):Sp:=fun vs H Q _=>∃(a:Addr)(d:FB.Deed),vs=[.ref a]/\SqT K H a d.vs/\d.fine/\Q (wrV d) H
theorem yE{d:FB.Deed}:(yD d).length<=2:=by cases d<;>simp [yD]
theorem BV(T:Txt K mg t):FnOk P w K mg base CX0 1 t.f_120 t.e_120 ["deed"] (uQ K):=by
 refine T.d_120.F.ok GG ∅ ?_;rintro cdv A outer s H vs Q E hr ⟨a,d,rfl,hS,hf,q⟩;refine ⟨_,
   (XSs.h
   (aj
    (aw (fY (ap bu (ak ar (yqv 0 vl) af) aH (aA _)) (dI zJ (yqv 0 vl) (de af) ie) (dI zJ (yqv 0 vl) (de af) ie))))),?_⟩
 rw [show aP _ [V.ref a]=[some (.ref a)] from rfl];rwa [];refine ix0 hf hS (zn _ rfl ?_)
 cases d with
 |tell o=>exact zAC _ hS (jS (k:=1) (show ¬HT.sIx 2 0 (some 1)=0 by decide)) q
 |copy n o=>exact zAC _ hS (jS (k:=2) (show ¬HT.sIx 3 0 (some 2)=0 by decide)) q
 |op f n o o2=>exact zAC _ hS (jS (k:=2) (show ¬HT.sIx 4 0 (some 2)=0 by decide)) q
theorem Gh{a:Addr}{H:Hp}{Q:VK}{E:XK}:uQ K [.ref a] H Q E=∃d:FB.Deed,SqT K H a d.vs/\d.fine/\∀p,H p=none->Q (.ref p) (upd H p (.tup ((yD d).map FB.Opd.v))):=propext ⟨by rintro ⟨_,d,e,q⟩;cases e;exact ⟨d,q⟩,by rintro ⟨d,q⟩;exact zAE a d rfl q⟩
theorem jV(T:Txt K mg t):FnOk P w K mg base CX0 1 t.f_122 t.e_122 ["deed"] (ku K):=by
 refine T.d_122.F.ok GI ∅ ?_;rintro cdv A outer s H vs Q E hr ⟨a,d,rfl,hS,hf,q⟩;refine ⟨_,
   (XSs.h
   (aj
    (aw (fY (ap bu (ak ar (yqv 0 vl) af) aH (aA _)) dF (ak ar (yqv 0 vl) af))))),?_⟩
 rw [show aP _ [V.ref a]=[some (.ref a)] from rfl];rwa [];refine ix0 hf hS (zn _ rfl ?_)
 cases d with
 |tell o=>exact q
 |copy n o=>exact zAA _ _ hS rfl q
 |op f n o o2=>exact zAA _ _ hS rfl q
theorem fS{a:Addr}{H:Hp}{Q:VK}{E:XK}:ku K [.ref a] H Q E=∃d:FB.Deed,SqT K H a d.vs/\d.fine/\Q (wrV d) H:=propext ⟨by rintro ⟨_,d,e,q⟩;cases e;exact ⟨d,q⟩,by rintro ⟨d,q⟩;exact zAE a d rfl q⟩
def aQ(ds:List FB.Deed)(j k:Nat):Option Int:=match ds[j]?,ds[k]? with
 |some d,some e=>FB.oF d e
 |_,_=>none
def zO(K:W.Frag):Sp:=fun vs H Q _=>∃(a:Addr)(xs:List V)(ds:List FB.Deed)(j k:Nat)(d e:FB.Deed),vs=[.ref a,.int j,.int k]/\SqL K H a xs/\DeedsV K H xs ds/\j<k/\ds[j]?=some d/\ds[k]?=some e/\∀H',Same H H'->Q (FB.mR (FB.oF d e)) H'
def uR(K:W.Frag):Sp:=fun vs H Q _=>∃(a:Addr)(d:FB.Deed),vs=[.ref a]/\SqT K H a d.vs/\d.fine/\∀p H',Same H H'->H p=none->H' p=some (.lst (d.reads.map V.str))->Q (.ref p) H'
theorem rN{d:FB.Deed}:List.map id (List.filter jN ((yD d).map FB.Opd.v))=d.reads.map V.str:=by
 cases d with
 |tell o=>exact tP
 |copy n o=>exact tP
 |op f n o o2=>exact xQ
theorem BW(T:Txt K mg t):FnOk P w K mg base CX0 2 t.f_121 t.e_121 ["deed"] (uR K):=by
 have G_120:=@BV P w K mg base t T;refine T.d_121.F.ok GH ∅ ?_;rintro cdv A outer s H vs Q E hr ⟨a,d,rfl,hS,hf,q⟩;refine ⟨_,
   (XSs.h
   (aj
    (aw (br (tns:=["part"]) (cns:=[]) (ci:=[]) rfl (CompSc.of Jkl) (CP (au T.d_120 G_120 hr.m (aa (yqv 0 vl) ac) gl)) (fun _=>(av (i:=1) (show List.Nodup [(".0":Str),("part":Str)] by decide +kernel) rfl ll (Or.inr Jkl))) (fun _=>(nh (cv (aD eI gl T.z_isinstance boot_isinstance (aa (yqv 1 vl) (aa (eT (v:=.ty "str") gl T.z_str boot_str rfl) ac)))))) (fun _=>(yqv 1 vl)))))),?_⟩
 rw [show aP _ [V.ref a]=[some (.ref a)] from rfl];rwa [Gh];refine zAC d hS hf fun p hp=>⟨⟨_,SqT.of ae⟩,fun acc hacc bk=>?_⟩;refine xG jN id (by rw [b9,zq4];have:=yE (d:=d);omega) (SqT.of ae) hacc (fun x hm H3 Q' s3 h=>?_) (fun x hm H3 Q' s3 _ h=>?_) ?_
 ·obtain ⟨o,_,rfl⟩:=zq43.mp hm;rwa [];exact Bz (zn _ rfl h)
 ·rwa [];exact h
 ·rw [rN];exact q acc _ ((Same.upd hp).trans (Same.upd hacc)) ((Same.upd hp).free hacc) ae
theorem zk{a:Addr}{H:Hp}{Q:VK}{E:XK}:uR K [.ref a] H Q E=∃d:FB.Deed,SqT K H a d.vs/\d.fine/\∀p H',Same H H'->H p=none->H' p=some (.lst (d.reads.map V.str))->Q (.ref p) H':=propext ⟨by rintro ⟨_,d,e,q⟩;cases e;exact ⟨d,q⟩,by rintro ⟨d,q⟩;exact zAE a d rfl q⟩
theorem y3{d:FB.Deed}{ns:List Str}:inV (wrV d) (ns.map V.str)=decide (∃n∈d.writes,n∈ns):=by
 have hn:∀ns:List Str,inV .non (ns.map V.str)=false:=fun ns=>by
  induction ns with
  |nil=>rfl
  |cons m ns ih=>unfold inV at ih ⊢;rw [cm,qE,ih];rfl
 cases d with
 |tell o=>show inV .non _=_;rw [hn];simp [FB.Deed.writes]
 |copy n o=>show inV (.str n) _=_;rw [mD];simp [FB.Deed.writes]
 |op f n o o2=>show inV (.str n) _=_;rw [mD];simp [FB.Deed.writes]
theorem EW(T:Txt K mg t):FnOk P w K mg base CX0 10 t.f_124 t.e_124 ["deeds","j","k"] (zO K):=by
 have G_121:=@BW P w K mg base t T;have G_122:=@jV P w K mg base t T;refine T.d_124.F.ok sc_124 ∅ ?_;rintro cdv A outer s H vs Q E hr ⟨a,xs,ds,j,k,d,e,rfl,hS,hds,hjk,hd,he,q⟩;refine ⟨_,
   (XSs.h
   (ai
    (aq (i:=3) sc_124.nd rfl ll (ak az (yqv 0 vl) (yqv 1 vl)))
   (ai
    (aq (i:=4) sc_124.nd rfl ll (ak az (yqv 0 vl) (yqv 2 vl)))
   (ai
    (aL (bR (cC (ap bu (ak ar (yqv 3 vl) af) aH (aA _)) (ck (ap bu (ak ar (yqv 4 vl) af) aH (aA _)))))
     (aj
      (aw af))
     aC)
   (ai
    (aq (i:=5) sc_124.nd rfl ll (au T.d_122 G_122 hr.m (aa (yqv 3 vl) ac) gl))
   (ai
    (aL (bR (cC (ap je (yqv 5 vl) dF (aA _)) (ck (bR (dh (ap eK (yqv 5 vl) (au T.d_121 G_121 hr.m (aa (yqv 4 vl) ac) gl) rfl) (d7 (ap bu (yqv 5 vl) (au T.d_122 G_122 hr.m (aa (yqv 4 vl) ac) gl) (aA _))))))))
     (aj
      (aw af))
     aC)
   (aj
    (aw (fY (ap eK (au T.d_122 G_122 hr.m (aa (yqv 4 vl) ac) gl) (au T.d_121 G_121 hr.m (aa (yqv 3 vl) ac) gl) rfl) af dF))))))))),?_⟩
 rw [show aP _ [V.ref a,V.int j,V.int k]=[some (.ref a),some (.int j),some (.int k),none,none,none] from rfl];rwa [zk,fS];obtain ⟨x,hx,fd,qx,rfl,hqx⟩:=Paired.getR hds hd;obtain ⟨y,hy,fe,qy,rfl,hqy⟩:=Paired.getR hds he;refine zAA _ _ hS (aJ hx) (zAA _ _ hS (aJ hy) ?_);rwa [zk,fS];have fl:∀d:FB.Deed,c7 (wrV d)=true:=fun d=>by cases d<;>rfl
 have nw:∀d:FB.Deed,(! decide (wrV d=V.non))=! d.tells:=fun d=>by cases d<;>rfl
 have last:∀H1,Same H H1->¬(d.tells=true/\e.tells=true)->¬(∃n∈d.writes,n∈e.reads\/n∈e.writes)->∃d0:FB.Deed,SqT K H1 qy d0.vs/\d0.fine/\∃d1:FB.Deed,SqT K H1 qx d1.vs/\d1.fine/\
   ∀p H2,Same H1 H2->H1 p=none->H2 p=some (.lst (d1.reads.map V.str))->∃xs,(SqL K H2 p xs\/SqT K H2 p xs)/\c7 (wrV d0)=true/\xs.all c7=true/\if inV (wrV d0) xs=true then Q (.int 0) H2 else Q .non H2:=by
  intro H1 s1 h1 h2;refine zAC e (s1.seqT hqy) fe (zAC d (s1.seqT hqx) fd fun p H2 s2 hp hl=>zAG _ (.inl (SqL.of hl)) (fl e) iq ?_);rw [y3];unfold FB.oF at q;rw [zq1 h1,zq1 h2] at q;refine aU (fun h=>?_) (fun h=>?_)
  ·rw [zq2 h] at q;exact q _ (s1.trans s2)
  ·rw [zq1 h] at q;exact q _ (s1.trans s2)
 have wrm:∀(d e:FB.Deed),d.tells=false->(wrV d=wrV e↔∃n∈d.writes,n∈e.writes):=fun d e h=>by cases d<;>cases e<;>simp [wrV,FB.Deed.writes,FB.Deed.tells] at h ⊢
 refine ix0 fd hqx (zn _ rfl (gT (fun e1=>ix0 fe hqy (zn _ rfl (gT (fun e2=>?_) (fun e2=>?_)))) (fun e1=>?_)))
 ·unfold FB.oF at q;rw [zq2 ⟨e1,e2⟩] at q;exact q H (Same.refl H)
 ·have nt:¬(d.tells=true/\e.tells=true):=fun z=>by rw [e2] at z;exact bz z.2
  refine zAC d hqx fd ?_;rw [nw,e1];refine last H (Same.refl H) nt ?_;rw [J8 e1];simp
 ·have nt:¬(d.tells=true/\e.tells=true):=fun z=>by rw [e1] at z;exact bz z.1
  refine zAC d hqx fd ?_;rw [nw,e1];refine zAC e hqy fe fun p H2 s2 hp hl=>zAG _ (.inl (SqL.of hl)) (fl d) iq ?_;rw [y3];refine aU (fun h=>?_) (fun h=>zAC e (s2.seqT hqy) fe ?_)
  ·unfold FB.oF at q;obtain ⟨n,h1,h2⟩:=h;rw [zq1 nt,zq2 ⟨n,h1,.inl h2⟩] at q;exact q _ s2
  refine ⟨by cases d<;>cases e<;>rfl,zn _ rfl (aU (fun h2=>?_) (fun h2=>?_))⟩
  ·unfold FB.oF at q;obtain ⟨n,h3,h4⟩:=(wrm d e e1).mp h2;rw [zq1 nt,zq2 ⟨n,h3,.inr h4⟩] at q;exact q _ s2
  ·refine last H2 s2 nt ?_;rintro ⟨n,h3,h4 | h4⟩
   ·exact h (zn n h3 h4)
   ·exact h2 ((wrm d e e1).mpr (zn n h3 h4))
def lZ:FB.Deed->Nat
 | .op f _ _ _=>if f∈(["plus","less"]:List Str) then 0 else if f∈(["below","same"]:List Str) then 1 else if f∈(["and","or","xor"]:List Str) then 2 else 3
 |_=>3
def sV(d:FB.Deed):V:=if lZ d<3 then .int (lZ d) else .non
def Hr(ds:List FB.Deed)(p:Int):FB.Deed:=ds.getD p.toNat (.tell (.word 0))
theorem zL{d:FB.Deed}(h:d.fine):∃f:Str,atI d.vs 0=some (.str f)/\(ce kvs_SORTS (.inr f)).getD .non=sV d:=by
 cases d with
 |tell o=>exact zn ("tell") rfl Jkl
 |copy n o=>exact zn ("copy") rfl Jkl
 |op f n o o2=>refine zn f rfl ?_;have h:f∈FB.opsL:=h;simp only [FB.opsL,List.mem_cons,List.not_mem_nil,or_false] at h;rcases h with rfl | rfl | rfl | rfl | rfl | rfl | rfl<;>kernel_rfl
theorem Hv{d:FB.Deed}{s:Nat}(h:s<3):eqV (sV d) (.int s)=decide (lZ d=s):=by
 unfold sV
 split
 ·rw [FL.mx,eh,eo,eo];omega
 ·rw [bh Jlk];rfl
def m7(K:W.Frag):Sp:=fun vs H Q _=>∃(a:Addr)(d:FB.Deed),vs=[.ref a]/\SqT K H a d.vs/\d.fine/\Q (sV d) H
theorem wj(T:Txt K mg t)(hw:t.pr=w.params):FnOk P w K mg base CX0 1 t.f_123 t.e_123 ["deed"] (m7 K):=by
 refine T.d_123.F.ok GJ ∅ ?_;rintro cdv A outer s H vs Q E hr ⟨a,d,rfl,hS,hf,q⟩;refine ⟨_,
   (XSs.h
   (aj
    (aw (x6 hw T.k_SORTS T.g_SORTS gl (ak ar (yqv 0 vl) af) ⟨rfl,rfl,rfl,rfl⟩)))),?_⟩
 rw [show aP _ [V.ref a]=[some (.ref a)] from rfl];rwa [];obtain ⟨f,hf0,hv⟩:=zL hf;refine zAA _ _ hS hf0 (zn (.inr f) rfl ?_);rw [hv];exact q
theorem k9{a:Addr}{H:Hp}{Q:VK}{E:XK}:m7 K [.ref a] H Q E=∃d:FB.Deed,SqT K H a d.vs/\d.fine/\Q (sV d) H:=propext ⟨by rintro ⟨_,d,e,q⟩;cases e;exact ⟨d,q⟩,by rintro ⟨d,q⟩;exact zAE a d rfl q⟩
variable {H:Hp} {Q:VK} {a p:Addr} {i:Nat}
def nl(ps:List Nat):List V:=ps.map fun p:Nat=>V.int p
def soN(ds:List FB.Deed)(p:Nat):Nat:=lZ (ds.getD p (.tell (.word 0)))
def uN(us:List Int)(s:Nat):Int:=us.getD s 0
theorem jL{j:Nat}:∀{ps:List Nat},inV (.int j) (nl ps)=decide (j∈ps)
 | []=>rfl
 |p::ps=>by have ih:=jL (j:=j) (ps:=ps);unfold inV nl at ih ⊢;rw [cm,qE,ih,FL.mx,eh];simp only [Bool.or_eq_true,decide_eq_true_eq,List.mem_cons];exact ⟨fun h=>h.imp (fun e=>Jlk) id,fun h=>h.imp (fun e=>Jlk) id⟩
theorem fN:∀{ps:List Nat},(nl ps).all c7=true
 | []=>rfl
 |p::ps=>by have ih:=fN (ps:=ps);unfold nl at ih ⊢;rw [cm,AZ,ih];rfl
theorem HL{ps:List Nat}{p:Nat}(h:ps[i]?=some p):(nl ps)[i]?=some (V.int p):=by unfold nl;rw [bq,h];rfl
theorem eZ{ps:List Nat}:(nl ps).length=ps.length:=by unfold nl;rw [zq4]
theorem zE{ds:List FB.Deed}{p:Nat}(h:p<ds.length):(ds.map sV)[p]?=some (sV (ds.getD p (.tell (.word 0)))):=by rw [bq,zq5 h,cn,zq5 h];rfl
theorem Ex{ds:List FB.Deed}{bt:List Nat}{s:Nat}(h:s<3):Bi (.int s) (bt.map fun p=>sV (ds.getD p (.tell (.word 0))))=GD.fB (soN ds) bt s:=by unfold Bi GD.fB;rw [AM];apply List.countP_congr;intro p _;show eqV (sV (ds.getD p (.tell (.word 0)))) (.int s)=true↔_;rw [Hv h];rfl
theorem Bw{d:FB.Deed}:c7 (sV d)=true:=by unfold sV;split<;>rfl
def HF(b so gp:Addr):List (Str×V):=[("units",.ref b),("sorts",.ref so),("gaps",.ref gp)]
structure LayerH(K:W.Frag)(C:Addr)(H:Hp)(p:Addr)(ds:List FB.Deed)(us:List Int):Prop where
 ob:∃(dx b so gp:Addr)(qs:List Addr),H p=some (.ins C dx (HF b so gp))/\SqT K H b (us.map V.int)/\H so=some (.lst (ds.map sV))/\H gp=some (.lst (qs.map V.ref))/\qs.length=ds.length/\∀(k:Nat)q,qs[k]?=some q->H q=some (.lst ((List.range k).map fun j=>FB.mR (aQ ds j k)))
 h8:ds.length<=8
 h3:us.length=3
 hp:∀u∈us,0<u/\u<=3
theorem LayerH.same{K:W.Frag}{C:Addr}{H':Hp}{ds:List FB.Deed}{us:List Int}(s:Same H H')(h:LayerH K C H p ds us):LayerH K C H' p ds us:=
 ⟨let ⟨dx,b,so,gp,qs,e1,e2,e3,e4,e5,e6⟩:=h.ob;(zAT dx b so gp qs (s _ _ e1) (s.seqT e2) (s _ _ e3) (s _ _ e4) e5 fun k q hk=>s _ _ (e6 k q hk)),h.h8,h.h3,h.hp⟩
theorem LayerH.pos{K:W.Frag}{C:Addr}{ds:List FB.Deed}{us:List Int}(h:LayerH K C H p ds us):∀s,s<3->0<uN us s:=fun s hs=>by have hl:=h.h3;unfold uN;rw [cn,zq5 Jlk];exact (h.hp _ (dH _)).1
def sR(K:W.Frag)(C:Addr)(p d b:Addr)(i:Int)(H:Hp)(Q:VK):Prop:=∃(ds:List FB.Deed)(us:List Int)(dn bt:List Nat)(pl:Nat),i=pl/\LayerH K C H p ds us/\SqT K H d (nl dn)/\SqL K H b (nl bt)/\pl<ds.length/\(∀q∈bt,q<ds.length)/\bt.length<=8/\∀H',Same H H'->Q (.bl (GD.bP (aQ ds) (soN ds) (uN us) dn bt pl)) H'
def uH(K:W.Frag)(C:Addr):Sp:=fun vs H Q _=>∃(p d b:Addr)(i:Int),vs=[.ref p,.ref d,.ref b,.int i]/\sR K C p d b i H Q
theorem jZ{C d b:Addr}{i:Int}{E:XK}:uH K C [.ref p,.ref d,.ref b,.int i] H Q E=sR K C p d b i H Q:=propext ⟨by rintro ⟨_,_,_,_,e,q⟩;cases e;exact q,fun q=>zAU p d b i rfl q⟩
theorem k8{i j:Int}{E:XK}:zO K [.ref a,.int i,.int j] H Q E=∃(xs:List V)(ds:List FB.Deed)(m k:Nat),i=m/\j=k/\SqL K H a xs/\DeedsV K H xs ds/\m<k/\k<ds.length/\∀H',Same H H'->Q (FB.mR (aQ ds m k)) H':=propext ⟨by
  rintro ⟨_,xs,ds,m,k,d,e,ev,h1,h2,h3,h4,h5,q⟩
  cases ev
  refine zAY xs ds m k rfl rfl h1 h2 h3 (zq7.mp h5).1 ?_;unfold aQ;rw [h4,h5];exact q,by
  rintro ⟨xs,ds,m,k,rfl,rfl,h1,h2,h3,h4,q⟩;obtain ⟨d,hd⟩:∃d,ds[m]?=some d:=⟨_,zq5 Jlk⟩
  obtain ⟨e,he⟩:∃e,ds[k]?=some e:=⟨_,zq5 h4⟩
  refine zBE a xs ds m k d e rfl h1 h2 h3 hd he ?_;unfold aQ at q;rw [hd,he] at q;exact q⟩
theorem ixL{xs:List V}{v:V}(h:SqL K H a xs)(hv:xs[i]?=some v)(q:Q v H):Fk K (.ref a) (.int i) H Q:=by rwa [];exact zAA _ _ h (aJ hv) q
theorem ixT{xs:List V}{v:V}(h:SqT K H a xs)(hv:xs[i]?=some v)(q:Q v H):Ce K (.ref a) (.int i) H Q:=by rwa [];exact zAA _ _ h (aJ hv) q
theorem ud(T:Txt K mg t):FnOk P w K mg base CX0 1 t.f_130 t.e_130 ["self","done","beat","place"] (uH K t.C_Layer):=by
 refine T.d_130.F.ok sc_130 ∅ ?_;rintro cdv A outer s H vs Q E hr ⟨p,d,b,i,rfl,ds,us,dn,bt,pl,rfl,L,hD,hB,hpl,hbt,hlb,q⟩;obtain ⟨dx,ub,sb,gb,qs,hob,hU,hSo,hGp,hql,hq⟩:=L.ob;have h3:=L.h3;refine ⟨_,
   (XSs.h
   (ai
    (aq (i:=4) sc_130.nd rfl ll (ak az (cH (yqv 0 vc) rfl) (yqv 3 vl)))
   (bo
    (aL (bR (cC (ap je (yqv 4 vl) dF (aA _)) (ck (ap bu (c6 PySem.F.plainAttrs_list PySem.F.slot_list_count PySem.F.type_list_count yf (br (tns:=["other"]) (cns:=["self"]) (ci:=[0]) rfl (CompSc.of Jkl) (aN (yqv 2 vl)) (fun _=>(av (i:=1) (show List.Nodup [(".0":Str),("other":Str),("self":Str)] by decide +kernel) rfl ll (Or.inr Jkl))) (fun _=>bN) (fun _=>(ak az (cH (yqv 2 vc) rfl) (yqv 1 vl)))) (aa (yqv 4 vl) ac)) (ak ar (cH (yqv 0 vc) rfl) (yqv 4 vl)) (aA _)))))
     (aj
      (aw c5))
     aC)
   (ai
    (b8 PassesOwn.never rfl (ql T.z_enumerate (aa (ak az (cH (yqv 0 vc) rfl) (yqv 3 vl)) ac) gl) (dG rfl (aT (av (i:=5) sc_130.nd rfl ll) (aT (av (i:=6) sc_130.nd rfl ll) cU)))
     (ai
      (aq (i:=7) sc_130.nd rfl ll (Hh (cz eK (yqv 5 vl) (yqv 1 vl) rfl) (jo (ng (cz bu (yqv 6 vl) af (aA _)) (jo (cz eK (yqv 5 vl) (yqv 2 vl) rfl))))))
     (aj
      (aL (bR (cC (ap je (yqv 6 vl) dF (aA _)) (ck (cV (cv (yqv 7 vl))))))
       (aj
        (aw c5))
       aC))))
   (aj
    (aw c5)))))),?_⟩
 rw [show aP _ [V.ref p,V.ref d,V.ref b,V.int pl]=[some (.ref p),some (.ref d),some (.ref b),some (.int pl),none,none,none,none] from rfl];simp_arith! [];refine j3 hob T.c_Layer.cl T.n_Layer_sorts rfl (ixL (SqL.of hSo) (zE hpl) ?_);refine later ?_;simp_arith! [];refine zn (fun σ H'=>Same H H'/\(soN ds pl<3->(GD.fB (soN ds) bt (soN ds pl):Int)≠uN us (soN ds pl))/\σ=[some (.ref p),some (.ref d),some (.ref b),some (.int pl),some (sV (ds.getD pl (.tell (.word 0)))),none,none,none]) ?_ ?_
 ·by_cases hs:soN ds pl<3
  ·have e:sV (ds.getD pl (.tell (.word 0)))=.int (soN ds pl):=zq2 hs;rw [e];rwa [];refine ⟨⟨_,hB⟩,fun acc hacc bk=>?_⟩;refine nX (fun _=>true) (fun x=>sV (Hr ds (match x with | .int i=>i | _=>0))) (by rw [eZ,b9];omega) hB hacc (fun x _ H2 Q' s2 h=>h H2 (Same.refl _)) (fun x hx H2 Q' s2 _ h=>?_) fun H2 s2 hacc2=>?_
   ·obtain ⟨qp,hqm,rfl⟩:=zq43.mp hx;rwa [];exact j3 (s2 _ _ hob) T.c_Layer.cl T.n_Layer_sorts rfl (ixL (SqL.of (s2 _ _ hSo)) (zE (hbt qp hqm)) (h H2 (Same.refl _)))
   ·rw [gu] at hacc2;have el:List.map (fun x=>sV (Hr ds (match x with | .int i=>i | _=>0))) (nl bt)=bt.map fun p=>sV (ds.getD p (.tell (.word 0))):=by unfold nl;rw [eG];rfl
    rw [el] at hacc2;have hu:(us.map V.int)[soN ds pl]?=some (V.int (uN us (soN ds pl))):=by unfold uN;rw [bq,zq5 Jlk,cn,zq5 Jlk];rfl
    refine ⟨.inl ⟨rfl,_,SqL.of hacc2⟩,zAG _ (SqL.of hacc2) rfl ?_ ?_⟩
    ·rw [List.all_map,zq48];exact fun x _=>Bw
    refine j3 (s2 _ _ hob) T.c_Layer.cl T.n_Layer_units rfl (ixT (s2.seqT hU) hu ?_);rw [Ex hs];rwa [];refine aU (fun z=>?_) (fun z=>⟨s2,fun _=>z⟩);have hf:GD.bP (aQ ds) (soN ds) (uN us) dn bt pl=false:=by
     cases hf:GD.bP (aQ ds) (soN ds) (uN us) dn bt pl with
     |false=>rfl
     |true=>exact absurd z ((GD.fits_iff.mp hf).1 hs)
    rw [hf] at q;exact q H2 s2
  ·have e:sV (ds.getD pl (.tell (.word 0)))=.non:=zq1 hs;rw [e];rwa [];exact ⟨Same.refl H,fun z=>absurd z hs⟩
 ·rintro σ H1 ⟨s1,hc,rfl⟩;refine later ?_;obtain ⟨gq,hgq⟩:∃gq,qs[pl]?=some gq:=⟨_,zq5 Jlk⟩
  have hG:=hq pl gq hgq;rwa [];refine j3 (s1 _ _ hob) T.c_Layer.cl T.n_Layer_gaps rfl (ixL (SqL.of (s1 _ _ hGp)) (v:=.ref gq) (by rw [bq,hgq];rfl) (zAC gq rfl ⟨_,SqL.of (s1 _ _ hG)⟩ ?_));refine tR (xs:=(List.range pl).map fun j=>FB.mR (aQ ds j pl)) (fun i σ H'=>Same H H'/\(∀j,j<i->GD.cO (aQ ds) dn bt pl j=true)/\∃o5 o6 o7,σ=[some (.ref p),some (.ref d),some (.ref b),some (.int pl),some (sV (ds.getD pl (.tell (.word 0)))),o5,o6,o7]) (zAB s1 (fun j hj=>absurd hj Jlk) (zAL _ _ _ rfl)) (fun i σ H' _ h=>SqL.of (h.1 _ _ hG)) ?_ ?_
  ·rintro i x σ H2 pp hx hpp ⟨s2,hah,o5,o6,o7,rfl⟩;have hi:i<pl:=by have:=(zq7.mp hx).1;rwa [zq4,cX] at this
   rw [bq,xh hi] at hx
   cases hx
   have s3:Same H (upd H2 pp (.tup [.int i,FB.mR (aQ ds i pl)])):=s2.updN hpp;rwa [];refine zAC _ (SqT.of ae) rfl ?_;have ih:GD.cO (aQ ds) dn bt pl i=true->∀j,j<i+1->GD.cO (aQ ds) dn bt pl j=true:=fun h j hj=>by
    by_cases e:j=i
    ·rw [e];exact h
    ·exact hah j Jlk
   have no:GD.cO (aQ ds) dn bt pl i=false->GD.bP (aQ ds) (soN ds) (uN us) dn bt pl=false:=fun h=>by
    cases hf:GD.bP (aQ ds) (soN ds) (uN us) dn bt pl with
    |false=>rfl
    |true=>have z:=(GD.fits_iff.mp hf).2 i hi;rw [h] at z;cases z
   unfold GD.cO at ih no
   cases hg:aQ ds i pl with
   |none=>
    rw [hg] at ih s3;simp_arith [FB.mR] at s3 ⊢;have ih':=ih rfl;refine zAG _ (.inr (s3.seqT hD)) rfl fN ?_
    split
    ·split<;>exact zAB s3 ih' (zAL _ _ _ rfl)
    ·refine ⟨rfl,zn _ rfl ?_⟩;rw [show decide (V.non=V.int 0)=false from rfl];simp only [decide_true,Bool.not_true,Bool.false_eq_true,if_false];exact zAB s3 ih' (zAL _ _ _ rfl)
   |some l=>
    rw [hg] at ih no s3;simp_arith [FB.mR] at s3 ⊢;dsimp only at ih no;refine zAG _ (.inr (s3.seqT hD)) rfl fN ?_;rw [jL,show decide (V.int l=V.non)=false from rfl]
    by_cases h1:i∈dn
    ·rw [zq2 (bC h1)]
     split<;>exact zAB s3 (ih (by simp [h1])) (zAL _ _ _ rfl)
    ·rw [zq1 (by simp [h1])]
     by_cases h2:l=0
     ·rw [zq2 (bC h2)];refine zAG _ (.inl (s3.seq hB)) rfl fN ?_;rw [jL]
      by_cases h3':i∈bt
      ·simp only [h3',decide_true,Bool.not_true,Bool.not_false,Bool.false_eq_true,if_false,if_true];exact zAB s3 (ih (by simp [h2,h3'])) (zAL _ _ _ rfl)
      ·simp only [h3',decide_false,Bool.not_true,Bool.not_false,Bool.false_eq_true,if_false,if_true];rw [no (by simp [h1,h3'])] at q;exact q _ s3
     ·rw [zq1 (by simp [h2])];simp only [Bool.not_true,Bool.not_false,Bool.false_eq_true,if_false,if_true];rw [no (by simp [h1,h2])] at q;exact q _ s3
  ·rintro σ H2 ⟨s2,hah,o5,o6,o7,rfl⟩;rw [zq4,cX] at hah;have hf:GD.bP (aQ ds) (soN ds) (uN us) dn bt pl=true:=GD.fits_iff.mpr ⟨hc,hah⟩;rw [hf] at q;rwa [];exact q H2 s2
def mh(K:W.Frag)(H:Hp)(a b:Addr)(ds:List FB.Deed)(us:List Int):Prop:=∃xs,SqL K H a xs/\DeedsV K H xs ds/\ds.length<=8/\SqT K H b (us.map V.int)/\us.length=3/\∀u∈us,0<u/\u<=3
variable {H:Hp}
def LLN(H:Hp)(c:Addr)(bts:List (List Nat)):Prop:=∃ps:List Addr,H c=some (.lst (ps.map V.ref))/\Paired (fun p (b:List Nat)=>H p=some (.lst (nl b))) ps bts
theorem LLN.same{H':Hp}{c:Addr}{bts:List (List Nat)}(s:Same H H')(h:LLN H c bts):LLN H' c bts:=
 let ⟨ps,e,r⟩:=h;(zn ps (s _ _ e) (Paired.mapP r fun _ _ z=>s _ _ z))
theorem ET{mo r:Addr}{rs:List Addr}{b:List Nat}(h1:H mo=some (.lst (rs.map V.ref)))(h2:H r=some (.lst (nl b)))(hr:r∈rs):r≠mo:=by
 rintro rfl;rw [h1] at h2;have e:rs.map V.ref=nl b:=HO.lst.inj (Option.some.inj h2)
 cases rs with
 |nil=>cases hr
 |cons x xs=>
  cases b with
  |nil=>cases e
  |cons y ys=>
   unfold nl at e;rw [cm,cm] at e
   cases (List.cons.inj e).1
theorem uk{H:Hp}{mo:Addr}{rs:List Addr}{o:HO}(h:H mo=some (.lst (rs.map V.ref))):∀{rs':List Addr} {bs:List (List Nat)},Paired (fun r (b:List Nat)=>H r=some (.lst (nl b))) rs' bs->(∀r∈rs',r∈rs)->Paired (fun r (b:List Nat)=>upd H mo o r=some (.lst (nl b))) rs' bs
 |_,_,.nil,_=>.nil
 |_,_,.cons z t,hm=>.cons (by rw [ao (ET h z (hm _ Jll))];exact z) (uk h t fun r hr=>hm r (b7 _ hr))
theorem yT{H:Hp}{mo:Addr}{rs:List Addr}{bs:List (List Nat)}{r:Addr}{b:List Nat}(h:H mo=some (.lst (rs.map V.ref)))(hp:Paired (fun r (b:List Nat)=>H r=some (.lst (nl b))) rs bs)(hr:H r=some (.lst (nl b)))(ne:r≠mo):
  Paired (fun q (b:List Nat)=>upd H mo (.lst (rs.map V.ref++[.ref r])) q=some (.lst (nl b))) (rs++[r]) (bs++[b]):=Paired.snoc (uk h hp fun _ h=>h) (by rw [ao ne];exact hr)
theorem BK{bt:List Nat}{p:Nat}:nl bt++[V.int p]=nl (bt++[p]):=by unfold nl;rw [cq];rfl
def tq(K:W.Frag)(C:Addr)(p d b m:Addr)(H:Hp)(Q:VK):Prop:=∃(ds:List FB.Deed)(us:List Int)(dn bt ms:List Nat),LayerH K C H p ds us/\SqT K H d (nl dn)/\SqL K H b (nl bt)/\SqL K H m (nl ms)/\(∀q∈bt,q<ds.length)/\bt.length<=8/\(∀q∈ms,q<ds.length)/\ms.length<=8/\∀H',Same H H'->Q (.bl (GD.iV (aQ ds) (soN ds) (uN us) dn bt ms)) H'
def uS(K:W.Frag)(C:Addr):Sp:=fun vs H Q _=>∃(p d b m:Addr),vs=[.ref p,.ref d,.ref b,.ref m]/\tq K C p d b m H Q
def nM(K:W.Frag)(C:Addr)(p d c:Addr)(i:Int)(H:Hp)(Q:VK):Prop:=∃(ds:List FB.Deed)(us:List Int)(dn:List Nat)(bts:List (List Nat)) (pl:Nat),i=pl/\LayerH K C H p ds us/\SqT K H d (nl dn)/\LLN H c bts/\pl<ds.length/\(∀b∈bts,(∀q∈b,q<ds.length)/\b.length<=7)/\bts.length<=1000/\
 ∀c' H',Same H H'->LLN H' c' (GD.bF (aQ ds) (soN ds) (uN us) dn bts pl)->Q (.ref c') H'
def pL(K:W.Frag)(C:Addr):Sp:=fun vs H Q _=>∃(p d c:Addr)(i:Int),vs=[.ref p,.ref d,.ref c,.int i]/\nM K C p d c i H Q
theorem rX{C p d b m:Addr}{Q:VK}{E:XK}:uS K C [.ref p,.ref d,.ref b,.ref m] H Q E=tq K C p d b m H Q:=propext ⟨by rintro ⟨_,_,_,_,e,q⟩;cases e;exact q,fun q=>zAU p d b m rfl q⟩
theorem uw{C p d c:Addr}{i:Int}{Q:VK}{E:XK}:pL K C [.ref p,.ref d,.ref c,.int i] H Q E=nM K C p d c i H Q:=propext ⟨by rintro ⟨_,_,_,_,e,q⟩;cases e;exact q,fun q=>zAU p d c i rfl q⟩
def fRm(f:Nat->Bool):V->V
 | .int i=>.bl (f i.toNat)
 |_=>.non
theorem BX(T:Txt K mg t):FnOk P w K mg base CX0 2 t.f_129 t.e_129 ["self","done","beat","missing"] (uS K t.C_Layer):=by
 have G_130:=@ud P w K mg base t T;refine T.d_129.F.ok GL ∅ ?_;rintro cdv A outer s H vs Q E hr ⟨p,d,b,m,rfl,ds,us,dn,bt,ms,L,hD,hB,hM,hbt,hlb,hms,hlm,q⟩;refine ⟨_,
   (XSs.h
   (aj
    (aw (aD (nT rfl) gl T.z_any boot_any (aa (br (tns:=["place"]) (cns:=["self","done","beat"]) (ci:=[0,1,2]) rfl (CompSc.of Jkl) (aN (yqv 3 vl)) (fun _=>(av (i:=1) (show List.Nodup [(".0":Str),("place":Str),("self":Str),("done":Str),("beat":Str)] by decide +kernel) rfl ll (Or.inr Jkl))) (fun _=>bN) (fun _=>(ng (cz dB (yqv 1 vl) (yqv 4 vc) rfl) (jo (aW T.c_Layer.cl T.d_130 G_130 hr.m (yqv 2 vc) (aa (yqv 3 vc) (aa (yqv 4 vc) (aa (yqv 1 vl) ac)))))))) ac))))),?_⟩
 rw [show aP _ [V.ref p,V.ref d,V.ref b,V.ref m]=[some (.ref p),some (.ref d),some (.ref b),some (.ref m)] from rfl];rwa [jZ];refine ⟨⟨_,hM⟩,fun acc hacc bk=>?_⟩;refine nX (fun _=>true) (fRm fun q=>! decide (q∈bt)&&GD.bP (aQ ds) (soN ds) (uN us) dn bt q) (by rw [eZ,b9];omega) hM hacc (fun x _ H2 Q' s2 h=>h H2 (Same.refl _)) (fun x hx H2 Q' s2 _ h=>?_) fun H2 s2 hacc2=>?_
 ·obtain ⟨qp,hqm,rfl⟩:=zq43.mp hx;rwa [jZ];refine zAG _ (.inl (s2.seq hB)) rfl fN ?_;rw [jL];have h':∀H',Same H2 H'->Q' (.bl (! decide (qp∈bt)&&GD.bP (aQ ds) (soN ds) (uN us) dn bt qp)) H':=h;obtain ⟨dx,ub,sb,gb,qs,hob,_⟩:=(L.same s2).ob;refine y7 (fun hn=>?_) (fun hn=>?_)
  ·rw [bh hn,Bool.not_false,AN] at h';exact bQ hob rfl (zBH ds us dn bt qp rfl (L.same s2) (s2.seqT hD) (s2.seq hB) (hms qp hqm) hbt hlb h')
  ·rw [bC hn,Bool.not_true,Bool.false_and] at h';exact h' H2 (Same.refl _)
 rw [gu] at hacc2;refine zn (ms.map fun q=>! decide (q∈bt)&&GD.bP (aQ ds) (soN ds) (uN us) dn bt q) (SqL.of ?_) ?_
 ·rw [hacc2];unfold nl;rw [eG,eG];rfl
 ·have z:=q H2 s2;unfold GD.iV at z;rw [AO];exact z
theorem yp(T:Txt K mg t):FnOk P w K mg base CX0 2 t.f_128 t.e_128 ["self","done","beats","place"] (pL K t.C_Layer):=by
 have G_130:=@ud P w K mg base t T;refine T.d_128.F.ok sc_128 ∅ ?_;rintro cdv A outer s H vs Q E hr ⟨p,d,c,i,rfl,ds,us,dn,bts,pl,rfl,L,hD,hC,hpl,hb,hl,q⟩;obtain ⟨ps,hc,hps⟩:=hC;have lps:=hps.length;refine ⟨_,
   (XSs.h
   (ai
    (aq (i:=4) sc_128.nd rfl ll (aI ac))
   (ai
    (b8 PassesOwn.never rfl (aN (yqv 2 vl)) (av (i:=5) sc_128.nd rfl ll)
     (ai
      (aq (i:=6) sc_128.nd rfl ll (aW T.c_Layer.cl T.d_130 G_130 hr.m (yqv 0 vl) (aa (yqv 1 vl) (aa (yqv 5 vl) (aa (yqv 3 vl) ac)))))
     (bo
      (aL (cv (yqv 6 vl))
       (aj
        (aR (c6 PySem.F.plainAttrs_list PySem.F.slot_list_append PySem.F.type_list_append aX (yqv 4 vl) (aa (ay f6 (yqv 5 vl) (aI (aa (yqv 3 vl) ac))) ac))))
       aC)
     (aj
      (aL (bR (dh (cV (cv (yqv 6 vl))) (d7 (ap je (ak az (cH (yqv 0 vl) rfl) (yqv 3 vl)) dF (aA _)))))
       (aj
        (aR (c6 PySem.F.plainAttrs_list PySem.F.slot_list_append PySem.F.type_list_append aX (yqv 4 vl) (aa (yqv 5 vl) ac))))
       aC)))))
   (aj
    (aw (yqv 4 vl)))))),?_⟩
 rw [show aP _ [V.ref p,V.ref d,V.ref c,V.int pl]=[some (.ref p),some (.ref d),some (.ref c),some (.int pl),none,none,none] from rfl];rwa [jZ];intro mo hmo;refine ⟨⟨_,SqL.of (Same.upd hmo _ _ hc)⟩,?_⟩;refine cr (xs:=ps.map V.ref) (fun i σ H'=>Same H H'/\∃(rs:List Addr)(o5 o6:Option V),σ=[some (.ref p),some (.ref d),some (.ref c),some (.int pl),some (.ref mo),o5,o6]/\H' mo=some (.lst (rs.map V.ref))/\Paired (fun p (b:List Nat)=>H' p=some (.lst (nl b))) rs (GD.bF (aQ ds) (soN ds) (uN us) dn (bts.take i) pl)) ⟨Same.upd hmo,zAN ([]) none none rfl ae .nil⟩ (fun i σ H' _ h=>SqL.of (h.1 _ _ hc)) ?_ ?_
 ·rintro i x σ H1 hx ⟨s1,rs,o5,o6,rfl,hm1,hrs⟩;rw [bq] at hx;obtain ⟨bp,hbp,rfl⟩:=zq47.mp hx;obtain ⟨bt,hbt,hpb⟩:=Paired.get hps hbp;obtain ⟨hi,ei⟩:=zq7.mp hbt;obtain ⟨b1,b2⟩:=hb bt (bg hbt);simp_arith only [jZ];obtain ⟨dx,ub,sb,gb,qs,hob,hU,hSo,hGp,hql,hq⟩:=(L.same s1).ob;refine bQ hob rfl (zBH ds us dn bt pl rfl (L.same s1) (s1.seqT hD) (SqL.of (s1 _ _ hpb)) hpl b1 Jlk fun H2 s2=>?_);refine later ?_;simp_arith! [jZ];have s3:=s1.trans s2;have hr2:Paired (fun p (b:List Nat)=>H2 p=some (.lst (nl b))) rs (GD.bF (aQ ds) (soN ds) (uN us) dn (bts.take i) pl):=Paired.mapP hrs fun _ _ z=>s2 _ _ z;have e4:GD.bF (aQ ds) (soN ds) (uN us) dn (bts.take (i+1)) pl=GD.bF (aQ ds) (soN ds) (uN us) dn (bts.take i) pl++GD.gk (aQ ds) (soN ds) (uN us) dn bt pl:=by unfold GD.bF;rw [df hi,ei,List.flatMap_append,List.flatMap_singleton]
  rw [e4];have lr:=hrs.length;have lg:=GD.iw (G:=aQ ds) (so:=soN ds) (U:=uN us) (dn:=dn) (bts.take i) pl;rw [dY] at lg;refine ⟨fun σ H'=>Same H H'/\∃rs:List Addr,σ=[some (.ref p),some (.ref d),some (.ref c),some (.int pl),some (.ref mo),some (.ref bp),some (.bl (GD.bP (aQ ds) (soN ds) (uN us) dn bt pl))]/\H' mo=some (.lst (rs.map V.ref))/\Paired (fun p (b:List Nat)=>H' p=some (.lst (nl b))) rs (GD.bF (aQ ds) (soN ds) (uN us) dn (bts.take i) pl++(if GD.bP (aQ ds) (soN ds) (uN us) dn bt pl=true then [bt++[pl]] else [])),?_,?_⟩
  ·cases hf:GD.bP (aQ ds) (soN ds) (uN us) dn bt pl with
   |true=>
    rwa [if_true];refine ⟨.inl ⟨rfl,_,SqL.of (s2 _ _ hm1)⟩,fun p3 hp3=>zAD (nl bt) ([V.int pl]) (Same.upd hp3 _ _ (s2 _ _ (s1 _ _ hpb))) ae (by rw [eZ,b9,bV];omega) fun p4 hp4=>?_⟩;have s5:=(Same.upd (o:=.lst [V.int pl]) hp3).trans (Same.upd (o:=.lst (nl bt++[V.int pl])) hp4);have m5:=s5 _ _ (s2 _ _ hm1);refine zAG (rs.map V.ref) m5 (by rw [zq4,b9];omega) ((s3.trans s5).updM hmo) (zn (rs++[p4]) (by rw [ae,cq];rfl) ?_);exact yT m5 (Paired.mapP hr2 fun _ _ z=>s5 _ _ z) (by rw [ae,BK]) (am (Same.upd hp3 _ _ (s2 _ _ hm1)) hp4).symm
   |false=>rwa [Bool.false_eq_true,if_false,List.append_nil];exact ⟨s3,zn rs (s2 _ _ hm1) hr2⟩
  ·rintro σ H3 ⟨s4,rs2,rfl,hm3,hr3⟩;refine later ?_;have lr3:=hr3.length;rw [zq8] at lr3;have l1:(if GD.bP (aQ ds) (soN ds) (uN us) dn bt pl=true then [bt++[pl]] else []).length<=1:=by split<;>simp
   have app:∀v6:V,(GD.bP (aQ ds) (soN ds) (uN us) dn bt pl=false\/soN ds pl<3)->tyV K "list" (V.ref mo) H3/\∃xs,H3 mo=some (.lst xs)/\xs.length<sizeLine/\Same H (upd H3 mo (.lst (xs++[V.ref bp])))/\∃(rs:List Addr)(o5 o6:Option V),
     [some (V.ref p),some (V.ref d),some (V.ref c),some (V.int ↑pl),some (V.ref mo),some (V.ref bp),some v6]=[some (V.ref p),some (V.ref d),some (V.ref c),some (V.int ↑pl),some (V.ref mo),o5,o6]/\upd H3 mo (.lst (xs++[V.ref bp])) mo=some (.lst (rs.map V.ref))/\
      Paired (fun p (b:List Nat)=>upd H3 mo (.lst (xs++[V.ref bp])) p=some (.lst (nl b))) rs (GD.bF (aQ ds) (soN ds) (uN us) dn (bts.take i) pl++GD.gk (aQ ds) (soN ds) (uN us) dn bt pl):=fun v6 hor=>by
    refine ⟨.inl ⟨rfl,_,SqL.of hm3⟩,zAG _ hm3 (by rw [zq4,b9];omega) (s4.updM hmo) (zAN (rs2++[bp]) _ _ rfl (by rw [ae,cq];rfl) ?_)⟩;unfold GD.gk;rw [zq2 hor,<- kR];exact yT hm3 hr3 (s4 _ _ hpb) (am hpb hmo)
   rwa []
   cases hf:GD.bP (aQ ds) (soN ds) (uN us) dn bt pl with
   |false=>
    simp only [Bool.not_false,if_true];exact app _ (.inl hf)
   |true=>
    simp only [Bool.not_true,Bool.false_eq_true,if_false];obtain ⟨dx,ub,sb,gb,qs,hob,hU,hSo,hGp,hql,hq⟩:=(L.same s4).ob;refine j3 hob T.c_Layer.cl T.n_Layer_sorts rfl (ixL (SqL.of hSo) (zE hpl) ?_)
    by_cases hs:soN ds pl<3
    ·rw [show sV (ds.getD pl (.tell (.word 0)))=.int (soN ds pl) from zq2 hs,show decide (V.int (soN ds pl)=V.non)=false from rfl];simp only [Bool.not_false,if_true];exact app _ (.inr hs)
    ·rw [show sV (ds.getD pl (.tell (.word 0)))=.non from zq1 hs];simp only [decide_true,Bool.not_true,Bool.false_eq_true,if_false];refine ⟨s4,zAN rs2 _ _ rfl hm3 ?_⟩;unfold GD.gk;rw [zq1 (show ¬(GD.bP (aQ ds) (soN ds) (uN us) dn bt pl=false\/soN ds pl<3) by rw [hf];simp [hs]),g9];exact hr3
 ·rintro σ H1 ⟨s1,rs,o5,o6,rfl,hm1,hrs⟩;rwa [];rw [zq4,lps,ef] at hrs;exact q mo H1 s1 (zn rs hm1 hrs)
def sS(K:W.Frag)(C:Addr)(p d:Addr)(H:Hp)(Q:VK):Prop:=∃(ds:List FB.Deed)(us:List Int)(dn:List Nat),LayerH K C H p ds us/\SqT K H d (nl dn)/\∀c H',Same H H'->LLN H' c (GD.bY (aQ ds) (soN ds) (uN us) ds.length dn)->Q (.ref c) H'
def uI(K:W.Frag)(C:Addr):Sp:=fun vs H Q _=>∃(p d:Addr),vs=[.ref p,.ref d]/\sS K C p d H Q
def nN(K:W.Frag)(C:Addr)(p a b:Addr)(H:Hp)(Q:VK):Prop:=∃(H0:Hp)(dx:Addr)(ds:List FB.Deed)(us:List Int),Same H0 H/\H0 p=none/\H p=some (.ins C dx [])/\mh K H0 a b ds us/\∀H',Same H0 H'->LayerH K C H' p ds us->Q .non H'
def pN(K:W.Frag)(C:Addr):Sp:=fun vs H Q _=>∃(p a b:Addr),vs=[.ref p,.ref a,.ref b]/\nN K C p a b H Q
theorem rT{C p d:Addr}{H:Hp}{Q:VK}{E:XK}:uI K C [.ref p,.ref d] H Q E=sS K C p d H Q:=propext ⟨by rintro ⟨_,_,e,q⟩;cases e;exact q,fun q=>zAE p d rfl q⟩
theorem Ct{C p a b:Addr}{H:Hp}{Q:VK}{E:XK}:pN K C [.ref p,.ref a,.ref b] H Q E=nN K C p a b H Q:=propext ⟨by rintro ⟨_,_,_,e,q⟩;cases e;exact q,fun q=>zAK p a b rfl q⟩
theorem fR{f:Str}{v:V}:∀{fs:List (Str×V)},(fs.map (·.1)).contains f=false->dC f v fs=fs++[(f,v)]
 | [],_=>rfl
 | (g,x)::r,h=>by
  rw [cm,List.contains_cons,Bool.or_eq_false_iff] at h;have n:¬g=f:=fun z=>by subst z;simp at h
  rw [show dC f v ((g,x)::r)=(if g=f then (g,v)::r else (g,x)::dC f v r) from rfl,zq1 n,fR h.2];rfl
theorem tU{ds:List FB.Deed}{us:List Int}{dn:List Nat}:∀(ms:List Nat)(bts:List (List Nat)) (m:Nat),(∀q∈ms,q<ds.length)->(∀b∈bts,(∀q∈b,q<ds.length)/\b.length<=m)->∀b∈ms.foldl (GD.bF (aQ ds) (soN ds) (uN us) dn) bts,(∀q∈b,q<ds.length)/\b.length<=m+ms.length
 | [],_,_,_,h=>h
 |p::ms,bts,m,h1,h2=>fun b hb=>by
  have z:=tU ms (GD.bF (aQ ds) (soN ds) (uN us) dn bts p) (m+1) (fun q hq=>h1 q (b7 _ hq)) (fun c hc=>by
   obtain ⟨b',hb',hc⟩:=zq103.mp hc;obtain ⟨g1,g2⟩:=h2 b' hb';rcases GD.oQ hc with ⟨_,rfl⟩ | rfl
   ·refine ⟨fun q hq=>?_,by rw [zq8,bV];omega⟩;rcases zq20.mp hq with hq | hq
    ·exact g1 q hq
    ·rw [zq9.mp hq];exact h1 p Jll
   ·exact ⟨g1,Jlk⟩) b hb
  exact ⟨z.1,by rw [d5];omega⟩
theorem oR{n:Nat}{dn:List Nat}:(GD.cj n dn).length<=n:=by have:=qm (fun p=>! decide (p∈dn)) (List.range n);rwa [cX] at this
theorem BP(T:Txt K mg t):FnOk P w K mg base CX0 3 t.f_127 t.e_127 ["self","done"] (uI K t.C_Layer):=by
 have G_129:=@BX P w K mg base t T;have G_128:=@yp P w K mg base t T;refine T.d_127.F.ok sc_127 ∅ ?_;rintro cdv A outer s H vs Q E hr ⟨p,d,rfl,ds,us,dn,L,hD,q⟩;have h8:=L.h8;obtain ⟨dx,ub,sb,gb,qs,hob,hU,hSo,hGp,hql,hq⟩:=L.ob;refine ⟨_,
   (XSs.h
   (ai
    (aq (i:=3) sc_127.nd rfl lc (br (tns:=["place"]) (cns:=["done"]) (ci:=[1]) rfl (CompSc.of Jkl) (cK gl T.z_range (aa (aD aF gl T.z_len PySem.boot_len (aa (cH (yqv 0 vc) rfl) ac)) ac)) (fun _=>(av (i:=1) (show List.Nodup [(".0":Str),("place":Str),("done":Str)] by decide +kernel) rfl ll (Or.inr Jkl))) (fun _=>(nh (ap dB (yqv 1 vl) (yqv 2 vc) rfl))) (fun _=>(yqv 1 vl))))
   (ai
    (aq (i:=4) sc_127.nd rfl ll (aI (aa (aI ac) ac)))
   (ai
    (b8 PassesOwn.never rfl (aN (yqv 3 vc)) (av (i:=2) sc_127.nd rfl ll)
     (aj
      (aq (i:=4) sc_127.nd rfl ll (aW T.c_Layer.cl T.d_128 G_128 hr.m (yqv 0 vc) (aa (yqv 1 vc) (aa (yqv 4 vl) (aa (yqv 2 vl) ac)))))))
   (aj
    (aw (br (tns:=["beat"]) (cns:=["self","done","missing"]) (ci:=[0,1,3]) rfl (CompSc.of Jkl) (aN (yqv 4 vl)) (fun _=>(av (i:=1) (show List.Nodup [(".0":Str),("beat":Str),("self":Str),("done":Str),("missing":Str)] by decide +kernel) rfl ll (Or.inr Jkl))) (fun _=>(nh (cV (cv (aW T.c_Layer.cl T.d_129 G_129 hr.m (yqv 2 vc) (aa (yqv 3 vc) (aa (yqv 1 vl) (aa (yqv 4 vc) ac)))))))) (fun _=>(yqv 1 vl))))))))),?_⟩
 rw [show aP _ [V.ref p,V.ref d]=[some (.ref p),some (.ref d),none,none,none] from rfl];rwa [rX,uw];refine j3 hob T.c_Layer.cl T.n_Layer_sorts rfl ?_;refine zAP sb _ rfl (.inl (SqL.of hSo)) (by rw [zq4];omega) (by rw [zq4];omega) fun acc hacc bk=>?_;rw [zq4,kE];refine nY (fun q=>! decide (q∈dn)) (fun q=>V.int q) (by rw [b9];omega) hacc (fun i hi H2 Q' s2 h=>?_) (fun i hi H2 Q' s2 _ h=>?_) fun H2 s2 hm=>?_
 ·rwa [];refine zAG _ (.inr (s2.seqT hD)) rfl fN ?_;rw [jL];exact h H2 (Same.refl _)
 ·rwa [];exact h H2 (Same.refl _)
 replace hm:H2 acc=some (.lst (nl (GD.cj ds.length dn))):=hm;have hml:=oR (n:=ds.length) (dn:=dn);have hmm:∀q∈GD.cj ds.length dn,q<ds.length:=fun q hq=>(GD.miss_iff.mp hq).1;have hfull:GD.bY (aQ ds) (soN ds) (uN us) ds.length dn=((GD.cj ds.length dn).foldl (GD.bF (aQ ds) (soN ds) (uN us) dn) [[]]).filter fun b=>! GD.iV (aQ ds) (soN ds) (uN us) dn b (GD.cj ds.length dn):=rfl;rw [hfull] at q;generalize GD.cj ds.length dn=ms at hm hml hmm q;have hbs:∀i,i<=ms.length->∀b∈(ms.take i).foldl (GD.bF (aQ ds) (soN ds) (uN us) dn) [[]],(∀q∈b,q<ds.length)/\b.length<=i:=fun i hi b hb=>by have z:=tU (us:=us) (dn:=dn) (ms.take i) [[]] 0 (fun q hq=>hmm q (vp hq)) (fun b hb=>by rw [zq9.mp hb];exact ⟨fun q hq=>(by cases hq),zq6 _⟩) b hb;rw [dY] at z;exact ⟨z.1,Jlk⟩
 have hbl:∀i,i<=ms.length->((ms.take i).foldl (GD.bF (aQ ds) (soN ds) (uN us) dn) [[]]).length<=256:=fun i hi=>by have z:=GD.jH (G:=aQ ds) (so:=soN ds) (U:=uN us) (dn:=dn) (ms.take i) [[]];rw [dY,bV,Nat.mul_one] at z;exact dX z (dX (AQ Jkm (show min i ms.length<=8 by omega)) Jkm)
 intro p2 hp2 p3 hp3;have s3:=(Same.upd (o:=.lst []) hp2).trans (Same.upd (o:=.lst [V.ref p2]) hp3);refine ⟨⟨_,SqL.of (s3 _ _ hm)⟩,?_⟩;refine cr (xs:=nl ms) (fun i σ H'=>Same H H'/\H' acc=some (.lst (nl ms))/\∃(o2:Option V)(c:Addr),σ=[some (.ref p),some (.ref d),o2,some (.ref acc),some (.ref c)]/\LLN H' c ((ms.take i).foldl (GD.bF (aQ ds) (soN ds) (uN us) dn) [[]])) (zAB (s2.trans s3) (s3 _ _ hm) (zAE _ p3 rfl (zn ([p2]) ae (.cons ?_ .nil)))) (fun i σ H' _ h=>SqL.of h.2.1) ?_ ?_
 ·rw [ao (am ae hp3)];exact ae
 ·rintro i x σ H3 hx ⟨s4,hm3,o2,c,rfl,hl⟩;unfold nl at hx;rw [bq] at hx;obtain ⟨pl,hpl,rfl⟩:=zq47.mp hx;obtain ⟨hi,ei⟩:=zq7.mp hpl;rwa [uw];refine bQ (s4 _ _ hob) rfl (zBH ds us dn _ pl rfl (L.same s4) (s4.seqT hD) hl (hmm pl (bg hpl)) (fun b hb=>⟨(hbs i Jlk b hb).1,by have:=(hbs i Jlk b hb).2;omega⟩) (by have:=hbl i Jlk;omega) fun c' H4 s5 hl4=>zAB (s4.trans s5) (s5 _ _ hm3) (zAE _ c' rfl ?_));rw [df hi,ei,qJ];exact hl4
 ·rintro σ H3 ⟨s4,hm3,o2,c,rfl,ps,hc,hps⟩;rw [eZ] at hps;have hbs':=hbs ms.length (zq6 _);have hbl':=hbl ms.length (zq6 _);rw [ef] at hps hbs' hbl';generalize ms.foldl (GD.bF (aQ ds) (soN ds) (uN us) dn) [[]]=bts at hps hbs' hbl' q;have lps:=hps.length;rwa [rX];refine ⟨⟨_,SqL.of hc⟩,fun acc2 hacc2 bk2=>?_⟩;refine cP (xs:=ps.map V.ref) (fun i ys H'=>Same H3 H'/\∃rs:List Addr,ys=rs.map V.ref/\H' acc2=some (.lst ys)/\rs.length<=i/\Paired (fun r (b:List Nat)=>H3 r=some (.lst (nl b))) rs ((bts.take i).filter fun b=>! GD.iV (aQ ds) (soN ds) (uN us) dn b ms)) ⟨Same.upd hacc2,zAG ([]) rfl ae (zq6 _) .nil⟩ (fun i ys H' _ h=>SqL.of (h.1 _ _ hc)) ?_ ?_
  ·rintro i x ys H' os hx ho ⟨sm,rs,rfl,e1,lrs,hrs⟩;rw [bq] at hx;obtain ⟨bp,hbp,rfl⟩:=zq47.mp hx;obtain ⟨bt,hbt,hpb⟩:=Paired.get hps hbp;obtain ⟨hi,ei⟩:=zq7.mp hbt;obtain ⟨b1,b2⟩:=hbs' bt (bg hbt)
   match os,ho with
   | [o],_=>
    rwa [rX];have s5:=s4.trans sm;refine ⟨zn ([some (.ref bp)]) rfl rfl,bQ (s5 _ _ hob) rfl (zAX ds us dn bt ms (zBC (L.same s5) (s5.seqT hD) (SqL.of (sm _ _ hpb)) (SqL.of (sm _ _ hm3)) b1 Jlk hmm Jlk fun H5 s6=>zn _ rfl ?_))⟩;have s7:=sm.trans s6;rw [df hi,ei,vh]
    cases hroom:GD.iV (aQ ds) (soN ds) (uN us) dn bt ms with
    |false=>
     simp only [Bool.not_false,if_true];refine zAF (s6 _ _ e1) (by rw [zq4,b9];omega) (s7.updM hacc2) (zAG (rs++[bp]) (by rw [cq];rfl) ae (by rw [zq8,bV];omega) ?_);rw [List.filter_cons_of_pos (by rw [hroom];rfl),vm];exact Paired.snoc hrs hpb
    |true=>simp only [Bool.not_true,Bool.false_eq_true,if_false];refine ⟨s7,zAG rs rfl (s6 _ _ e1) Jlk ?_⟩;rw [List.filter_cons_of_neg (by rw [hroom];simp),vm,g9];exact hrs
  ·rintro ys H' ⟨sm,rs,rfl,e1,lrs,hrs⟩;rw [zq4,lps,ef] at hrs;exact q acc2 H' (s4.trans sm) (zn rs e1 (Paired.mapP hrs fun _ _ z=>sm _ _ z))
theorem yr(T:Txt K mg t)(hw:t.pr=w.params):FnOk P w K mg base CX0 11 t.f_126 t.e_126 ["self","deeds","units"] (pN K t.C_Layer):=by
 have G_123:=wj (P:=P) (base:=base) T hw;have G_124:=@EW P w K mg base t T;refine T.d_126.F.ok GK ∅ ?_;rintro cdv A outer s H vs Q E hr ⟨p,a,b,rfl,H0,dx,ds,us,s0,hp0,hp,hI,q⟩;obtain ⟨xs,hS,hds,h8,hU,h3,hpos⟩:=hI;have lx:=hds.length;refine ⟨_,
   (XSs.h
   (ai
    (eA (yqv 0 vl) (yqv 2 vl) rfl)
   (ai
    (eA (yqv 0 vl) (br (tns:=["deed"]) (cns:=[]) (ci:=[]) rfl (CompSc.of Jkl) (aN (yqv 1 vc)) (fun _=>(av (i:=1) (show List.Nodup [(".0":Str),("deed":Str)] by decide +kernel) rfl ll (Or.inr Jkl))) (fun _=>bN) (fun _=>(au T.d_123 G_123 hr.m (aa (yqv 1 vl) ac) gl))) rfl)
   (aj
    (eA (yqv 0 vl) (wW (z0:="k") (tns:=["k"]) (cns:=["deeds"]) (ci:=[1]) rfl (CompScZ.of Jkl (fun _ _=>rfl) (fun _=>rfl)) (cK gl T.z_range (aa (aD aF gl T.z_len PySem.boot_len (aa (yqv 1 vc) ac)) ac)) (fun _=>(av (i:=1) (show List.Nodup [(".0":Str),("k":Str),("deeds":Str)] by decide +kernel) rfl lc (Or.inl rfl))) (fun _=>bN) (fun _=>(br (tns:=["j"]) (cns:=["k","deeds"]) (ci:=[1,2]) rfl (CompSc.of Jkl) (cK gl T.z_range (aa (yqv 1 vc) ac)) (fun _=>(av (i:=1) (show List.Nodup [(".0":Str),("j":Str),("k":Str),("deeds":Str)] by decide +kernel) rfl ll (Or.inr Jkl))) (fun _=>bN) (fun _=>(au T.d_124 G_124 hr.m (aa (yqv 3 vc) (aa (yqv 1 vl) (aa (yqv 2 vc) ac))) gl))))) rfl))))),?_⟩
 rw [show aP _ [V.ref p,V.ref a,V.ref b]=[some (.ref p),some (.ref a),some (.ref b)] from rfl];simp_arith! [k9,k8];refine oC hp T.c_Layer.cl T.n_Layer_units Jll ?_;rw [fR Jlm,qu];have s1:=s0.updM (o:=.ins t.C_Layer dx [("units",V.ref b)]) hp0;have e1:upd H p (.ins t.C_Layer dx [("units",V.ref b)]) p=some (.ins t.C_Layer dx [("units",V.ref b)]):=ae;generalize upd H p (.ins t.C_Layer dx [("units",V.ref b)])=H1 at s1 e1 ⊢;refine later ?_;simp_arith! [k9,k8];refine ⟨⟨_,s1.seq hS⟩,fun acc hacc bk=>?_⟩;refine cP (xs:=xs) (fun i ys H'=>Same H1 H'/\H' acc=some (.lst ys)/\ys=(ds.take i).map sV) (zAB (Same.upd hacc) ae Jll) (fun i ys H' _ h=>(s1.trans h.1).seq hS) ?_ ?_
 ·rintro i x ys H' os hx ho ⟨sm,e2,rfl⟩;obtain ⟨d,hd,fd,qx,rfl,hqx⟩:=Paired.get (hds.ts (s1.trans sm).ts) hx;obtain ⟨hi,ei⟩:=zq7.mp hd
  match os,ho with
  | [o],_=>rwa [k9];refine ⟨zn ([some (.ref qx)]) rfl rfl,⟨d,zBF hqx fd e2 (by rw [zq4,dY,b9];omega) (sm.updM hacc) ae ?_⟩⟩;rw [df hi,ei,cq];rfl
 ·rintro ys H2 ⟨s2,e2,rfl⟩;rw [lx,ef] at e2;have fa:=s1.free hacc;refine oC (s2 _ _ e1) T.c_Layer.cl T.n_Layer_sorts Jll ?_;rw [fR Jkl];have npa:acc≠p:=(am e1 hacc).symm;have s3:=(s1.trans s2).updM (o:=.ins t.C_Layer dx ([(("units":Str),V.ref b)]++[(("sorts":Str),V.ref acc)])) hp0;have e3:upd H2 p (.ins t.C_Layer dx ([(("units":Str),V.ref b)]++[(("sorts":Str),V.ref acc)])) p=some (.ins t.C_Layer dx ([(("units":Str),V.ref b)]++[(("sorts":Str),V.ref acc)])):=ae;have g3:upd H2 p (.ins t.C_Layer dx ([(("units":Str),V.ref b)]++[(("sorts":Str),V.ref acc)])) acc=some (.lst (ds.map sV)):=by rw [ao npa];exact e2
  generalize upd H2 p (.ins t.C_Layer dx ([(("units":Str),V.ref b)]++[(("sorts":Str),V.ref acc)]))=H3 at s3 e3 g3 ⊢;refine later ?_;simp_arith! [k8];refine zAG xs (.inl (s3.seq hS)) Jlk Jlk fun ac2 hac2 bk2=>?_;rw [kE,lx];refine nW (fun k ys H'=>Same H3 H'/\∃qs:List Addr,ys=qs.map V.ref/\H' ac2=some (.lst ys)/\qs.length=k/\∀(j:Nat)q,qs[j]?=some q->q≠ac2/\H' q=some (.lst ((List.range j).map fun i=>FB.mR (aQ ds i j)))) ⟨Same.upd hac2,zAG ([]) rfl ae rfl (fun j q h=>by simp at h)⟩ ?_ ?_
  ·rintro k ys H' os hk ho ⟨sm,qs,rfl,e4,lq,hqs⟩;rw [show (0:Int)+(k:Int)=(k:Int) by omega]
   match os,ho with
   | [o],_=>
    rwa [k8];refine zAF (zn ([some (.int k)]) rfl rfl) Jlk Jlk fun ac3 hac3 bk3=>?_;rw [kE];refine nY (fun _=>true) (fun j=>FB.mR (aQ ds j k)) (by rw [b9];omega) hac3 (fun j hj H4 Q' s4 h=>h H4 (Same.refl _)) (fun j hj H4 Q' s4 _ h=>?_) fun H4 s4 e5=>?_
    ·rwa [k8];have s5:=(s3.trans sm).trans s4;exact zAY xs ds j k rfl rfl (s5.seq hS) (hds.ts s5.ts) hj Jlk h
    ·rw [List.filter_eq_self.mpr (fun _ _=>rfl)] at e5;refine zAF (s4 _ _ e4) (by rw [zq4,b9];omega) ((sm.trans s4).updM hac2) (zAG (qs++[ac3]) (by rw [cq];rfl) ae (by rw [zq8,bV];omega) fun j q hj=>?_);have n3:ac3≠ac2:=(am e4 hac3).symm
     by_cases hlt:j<qs.length
     ·rw [gH hlt] at hj;obtain ⟨z1,z2⟩:=hqs j q hj;exact ⟨z1,by rw [ao z1];exact s4 _ _ z2⟩
     ·have hjl:=(zq7.mp hj).1;rw [zq8,bV] at hjl;obtain rfl:j=qs.length:=by omega
      rw [gG (zq6 _),nA] at hj
      cases hj
      refine ⟨n3,?_⟩;rw [ao n3,lq];exact e5
  ·rintro ys H4 ⟨s4,qs,rfl,e4,lq,hqs⟩;refine oC (s4 _ _ e3) T.c_Layer.cl T.n_Layer_gaps Jll ?_;rw [fR Jkl];have nac:ac2≠p:=(am e3 hac2).symm;have s5:=(s3.trans s4).updM (o:=.ins t.C_Layer dx ([(("units":Str),V.ref b)]++[(("sorts":Str),V.ref acc)]++[(("gaps":Str),V.ref ac2)])) hp0;refine q _ s5 ⟨zAT dx b acc ac2 qs ae (s5.seqT hU) ?_ ?_ lq fun k qq hk=>?_,h8,h3,hpos⟩
   ·rw [ao npa];exact s4 _ _ g3
   ·rw [ao nac];exact e4
   ·obtain ⟨z1,z2⟩:=hqs k qq hk;rw [ao (du z2 (s4 _ _ e3) (by intro z;cases z))];exact z2
variable {H H':Hp}
def LSt(H H':Hp):Prop:=∀b xs,H b=some (.lst xs)->H' b=some (.lst xs)
theorem LSt.of(s:Same H H'):LSt H H':=fun b xs e=>s _ _ e
theorem LSt.trans{H1 H2:Hp}(a:LSt H H1)(b:LSt H1 H2):LSt H H2:=fun c xs e=>b _ _ (a _ _ e)
theorem LSt.upd{l:Addr}{o u:HO}(e:H l=some u)(hn:∀xs,u≠.lst xs):LSt H (upd H l o):=fun b xs eb=>by rw [ao (du eb e (fun z=>hn xs z.symm))];exact eb
theorem LLN.lst{c:Addr}{bts:List (List Nat)}(s:LSt H H')(h:LLN H c bts):LLN H' c bts:=
 let ⟨ps,e,r⟩:=h;(zn ps (s _ _ e) (Paired.mapP r fun _ _ z=>s _ _ z))
def km(ps:List Nat):List Key:=ps.map fun p:Nat=>(Sum.inl (p:Int):Key)
theorem ua{ps:List Nat}:(km ps).map kV=nl ps:=by unfold km nl;rw [eG];rfl
theorem y9:∀{a b:List Nat},km a=km b->a=b
 | [],[],_=>rfl
 | [],_::_,h=>by cases h
 |_::_,[],h=>by cases h
 |x::a,y::b,h=>by unfold km at h;rw [cm,cm,List.cons.injEq] at h;have e:(x:Int)=(y:Int):=Sum.inl.inj h.1;rw [y9 (a:=a) (b:=b) h.2,show x=y by omega]
def WsV(H:Hp)(kvs:List (List Key×V))(ws:List (List Nat×List (List Nat))):Prop:=Paired (fun (kv:List Key×V) (w:List Nat×List (List Nat))=>kv.1=km w.1/\∃c,kv.2=.ref c/\LLN H c w.2) kvs ws
theorem WsV.lst{kvs:List (List Key×V)}{ws:List (List Nat×List (List Nat))}(s:LSt H H')(h:WsV H kvs ws):WsV H' kvs ws:=Paired.mapP h fun _ _ ⟨z1,c,z2,z3⟩=>⟨z1,zn c z2 (z3.lst s)⟩
theorem WsV.val{kvs:List (List Key×V)}{ws:List (List Nat×List (List Nat))}(h:WsV H kvs ws)(k:List Nat):(k∉ws.map (·.1)/\ce kvs (km k)=none)\/∃w∈ws,w.1=k/\∃c,ce kvs (km k)=some (.ref c)/\LLN H c w.2:=by
 unfold WsV at h
 induction h with
 |nil=>exact .inl ⟨Jll,rfl⟩
 | @cons kv w kvs ws hd tl ih=>
  obtain ⟨e1,c,e2,hl⟩:=hd
  by_cases e:w.1=k
  ·refine .inr (zAC w Jll e (zn c ?_ hl));rw [dc (by rw [e1,e]),e2]
  ·have ne:¬kv.1=km k:=fun z=>e (y9 (e1.symm.trans z));rcases ih with ⟨h1,h2⟩ | ⟨w',hw',h1,c',h2,h3⟩
   ·refine .inl ⟨?_,by rw [cT ne];exact h2⟩;rw [cm,zq11];exact fun z=>z.elim (fun z=>e z.symm) h1
   ·exact .inr (zAC w' (b7 _ hw') h1 (zn c' (by rw [cT ne];exact h2) h3))
theorem WsV.put{kvs:List (List Key×V)}{ws:List (List Nat×List (List Nat))}(h:WsV H kvs ws){k:List Nat}{c:Addr}{bss:List (List Nat)}(hc:LLN H c bss):WsV H (kvs++[(km k,.ref c)]) (ws++[(k,bss)]):=Paired.snoc h ⟨rfl,zn c rfl hc⟩
structure RoundH(H1 H:Hp)(wa lo:Addr)(o:Obj)(kvs:List (List Key×V))(ws acc:List (List Nat×List (List Nat))):Prop where
 same:Same H1 H
 fr:H1 lo=none
 old:H wa=some (.frz o (.dT kvs))
 wsv:WsV H kvs ws
 now:∃kv2,H lo=some (.dT kv2)/\WsV H kv2 acc
theorem RoundH.mv{H1:Hp}{wa lo:Addr}{o:Obj}{kvs:List (List Key×V)}{ws acc:List (List Nat×List (List Nat))}(h:RoundH H1 H wa lo o kvs ws acc)(s:Same H H'):RoundH H1 H' wa lo o kvs ws acc:=
 ⟨h.same.trans s,h.fr,s _ _ h.old,h.wsv.lst (LSt.of s),let ⟨kv2,e,r⟩:=h.now;(zn kv2 (s _ _ e) (r.lst (LSt.of s)))⟩
theorem RoundH.put{H1 H:Hp}{wa lo:Addr}{o:Obj}{kvs kv2:List (List Key×V)}{ws acc:List (List Nat×List (List Nat))}{k:List Nat}{c:Addr}{bss:List (List Nat)}(h:RoundH H1 H wa lo o kvs ws acc)(e:H lo=some (.dT kv2))(r:WsV H kv2 acc)(hk:k∉acc.map (·.1))(hc:LLN H c bss):
  RoundH H1 (upd H lo (.dT (kv2++[(km k,.ref c)]))) wa lo o kvs ws (GD.i6 acc k bss):=by
 have ls:LSt H (upd H lo (.dT (kv2++[(km k,.ref c)]))):=LSt.upd e (by intro xs z;cases z);refine ⟨h.same.updM h.fr,h.fr,?_,h.wsv.lst ls,kv2++[(km k,.ref c)],ae,?_⟩
 ·rw [ao (du h.old e (by intro z;cases z))];exact h.old
 ·unfold GD.i6;rw [zq1 hk];exact (r.put hc).lst ls
def pM(K:W.Frag):Sp:=fun vs H Q _=>∃(a b:Addr)(ds:List FB.Deed)(us:List Int),vs=[.ref a,.ref b]/\mh K H a b ds us/\∀c r bss H',Same H H'->LLN H' c bss->(List.range ds.length,bss)∈GD.c9 (aQ ds) (soN ds) (uN us) ds.length r->(∀k,k<r->List.range ds.length∉(GD.c9 (aQ ds) (soN ds) (uN us) ds.length k).map (·.1))->Q (.ref c) H'
theorem ze{ty td:TE}{σ:L2.St}{H:Hp}{Q:VK}:jl ty td σ H Q=ty σ H fun y H1=>td σ H1 fun x H2=>∃a o,x=.ref a/\DGet H2 a y o/\Q (.bl (! o.isSome)) H2:=rfl
theorem yq(T:Txt K mg t)(hw:t.pr=w.params):FnOk P w K mg base CX0 14 t.f_125 t.e_125 ["deeds","units"] (pM K):=by
 have G_126:=yr (P:=P) (base:=base) T hw;have G_127:=@BP P w K mg base t T;refine T.d_125.F.ok sc_125 ∅ ?_;rintro cdv A outer s H vs Q E hr ⟨a,b,ds,us,rfl,hI,q⟩;have hu:=lE hr;refine ⟨_,
   (XSs.h
   (ai
    (aq (i:=2) sc_125.nd rfl ll (me T.c_Layer T.d_126 G_126 hr.m (aa (yqv 0 vl) (aa (yqv 1 vl) ac)) gl))
   (ai
    (aq (i:=3) sc_125.nd rfl ll (sE rfl T.z_tuple T.z_range (aa (aD aF gl T.z_len PySem.boot_len (aa (yqv 0 vl) ac)) ac) gl gl))
   (ai
    (aq (i:=4) sc_125.nd rfl ll (sD hu (aE ac) (aI ac)))
   (ai
    (dJ PassesOwn.never (jp (gF hu (yqv 3 vl) (yqv 4 vl)))
     (ai
      (aq (i:=5) sc_125.nd rfl ll md)
     (ai
      (b8 PassesOwn.never rfl (sF (yqv 4 vl)) (dG rfl (aT (av (i:=6) sc_125.nd rfl ll) (aT (av (i:=7) sc_125.nd rfl ll) cU)))
       (aj
        (b8 PassesOwn.never rfl (aN (aW T.c_Layer.cl T.d_127 G_127 hr.m (yqv 2 vl) (aa (yqv 6 vl) ac))) (av (i:=8) sc_125.nd rfl ll)
         (aj
          (aR (c6 PySem.F.plainAttrs_dict PySem.F.slot_dict_setdefault PySem.F.type_dict_setdefault (kO hu) (yqv 5 vl) (aa (bL eE gl T.z_tuple boot_tuple (aa (aD iJ gl T.z_sorted boot_sorted (aa (ay f6 (bL cA gl T.z_list boot_list (aa (yqv 6 vl) ac)) (yqv 8 vl)) ac)) ac)) (aa (ay f6 (yqv 7 vl) (aI (aa (yqv 8 vl) ac))) ac))))))))
     (aj
      (aq (i:=4) sc_125.nd rfl ll (yqv 5 vl))))))
   (aj
    (aw (qi hu (yqv 4 vl) (yqv 3 vl) (fun _ _=>rfl))))))))),?_⟩
 rw [show aP _ [V.ref a,V.ref b]=[some (.ref a),some (.ref b),none,none,none,none,none,none,none] from rfl];simp_arith! [Ct,rT];intro ly dx hly hdx hne;refine zAK ly a b rfl (zAM H dx ds us ((Same.upd hdx).trans (Same.upd (by rw [ao hne.symm];exact hly))) hly ae hI fun H1 s1 L1=>⟨rfl,?_⟩);obtain ⟨xs,hS,hds,h8,hU,h3,hpos⟩:=hI;have lx:=hds.length;refine later ?_;simp_arith! [];refine zn xs (.inl (s1.seq hS)) (zAC ds.length (by rw [lx]) Jlk fun ev hev=>?_);have s2:=s1.updN (o:=.tup ((List.range ds.length).map fun i:Nat=>V.int i)) hev;have L2:=L1.same (Same.upd (o:=.tup ((List.range ds.length).map fun i:Nat=>V.int i)) hev);have e2:upd H1 ev (.tup ((List.range ds.length).map fun i:Nat=>V.int i)) ev=some (.tup (nl (List.range ds.length))):=ae;generalize upd H1 ev (.tup ((List.range ds.length).map fun i:Nat=>V.int i))=H2 at s2 L2 e2 ⊢;refine later ?_;simp_arith! [];intro wa hwa tp htp li hli;have eW:=((Same.upd (o:=.tup []) htp).trans (Same.upd (o:=.lst []) hli)) wa _ ae;refine ⟨eW,zAA tp ([]) rfl (Same.upd hli _ _ ae) ?_⟩;have s3:Same H2 (upd (upd (upd (upd H2 wa (.dT [])) tp (.tup [])) li (.lst [])) wa (.dT [([],.ref li)])):=((Same.upd hwa).trans ((Same.upd htp).trans (Same.upd hli))).updM hwa;have e3:upd (upd (upd (upd H2 wa (.dT [])) tp (.tup [])) li (.lst [])) wa (.dT [([],.ref li)]) wa=some (.dT [([],.ref li)]):=ae;have w3:WsV (upd (upd (upd (upd H2 wa (.dT [])) tp (.tup [])) li (.lst [])) wa (.dT [([],.ref li)])) [([],.ref li)] (GD.c9 (aQ ds) (soN ds) (uN us) ds.length 0):=
  .cons ⟨rfl,zn li rfl (zn ([]) (by rw [ao (am (Same.upd htp _ _ ae) hli).symm];exact ae) .nil)⟩ .nil
 generalize upd (upd (upd (upd H2 wa (.dT [])) tp (.tup [])) li (.lst [])) wa (.dT [([],.ref li)])=H3 at s3 e3 w3 ⊢;refine later ?_;simp_arith! [];have hpos2:=L2.pos;obtain ⟨n,hn⟩:∃n,n=ds.length:=⟨_,rfl⟩
 rw [<- hn] at e2 w3 q h8;obtain ⟨dx2,ub,sb,gb,qs,hob,_⟩:=L2.ob;refine ⟨fun m σ H'=>∃(r:Nat)(wa:Addr)(kvs:List (List Key×V)) (o5 o6 o7 o8:Option V),m=n-r/\σ=[some (.ref a),some (.ref b),some (.ref ly),some (.ref ev),some (.ref wa),o5,o6,o7,o8]/\Same H2 H'/\H2 wa=none/\H' wa=some (.dT kvs)/\WsV H' kvs (GD.c9 (aQ ds) (soN ds) (uN us) n r)/\∀k,k<r->List.range n∉(GD.c9 (aQ ds) (soN ds) (uN us) n k).map (·.1),
  (zAR _ 0 wa _ none none none none (zBF rfl rfl s3 hwa e3 w3 (fun k hk=>absurd hk Jlk))),?_⟩
 rintro m σ H4 ⟨r,wb,kvs,o5,o6,o7,o8,rfl,rfl,s4,hwb,e4,w4,hno⟩;simp_arith! [ze];refine zAA wb _ rfl (DGet.t (k:=km (List.range n)) e4 (by rw [ua];exact s4 _ _ e2)) ?_;rcases w4.val (List.range n) with ⟨hk,hv⟩ | ⟨w',hw',hk',c,hv,hl⟩
 ·rw [hv,zq2 (show (!(none:Option V).isSome)=true from rfl)];have hlt:r<n:=GD.CJ hpos2 fun k hk2=>by
   by_cases e:k=r
   ·rw [e];exact hk
   ·exact hno k Jlk
  refine ⟨fun σ H'=>∃(wa:Addr)(kvs:List (List Key×V)) (o5 o6 o7 o8:Option V),σ=[some (.ref a),some (.ref b),some (.ref ly),some (.ref ev),some (.ref wa),o5,o6,o7,o8]/\Same H2 H'/\H2 wa=none/\H' wa=some (.dT kvs)/\WsV H' kvs (GD.c9 (aQ ds) (soN ds) (uN us) n (r+1)),?_,?_⟩
  ·rintro σ' H' ⟨wc,kv2,p5,p6,p7,p8,rfl,z1,z2,z3,z4⟩;refine zn (n-(r+1)) Jlk (zBE (r+1) wc kv2 p5 p6 p7 p8 rfl rfl z1 z2 z3 z4 fun k hk2=>?_)
   by_cases e:k=r
   ·rw [e];exact hk
   ·exact hno k Jlk
  intro lo hlo;refine later ?_;simp_arith! [];have sl:=Same.upd (o:=.dT []) hlo;refine zAA wb kvs rfl (sl _ _ e4) fun o=>?_;have nlw:lo≠wb:=(am e4 hlo).symm;have R0:RoundH H2 (upd (upd H4 lo (.dT [])) wb (.frz o (.dT kvs))) wb lo o kvs (GD.c9 (aQ ds) (soN ds) (uN us) n r) []:=
   ⟨(s4.trans sl).updM hwb,s4.free hlo,ae,w4.lst ((LSt.of sl).trans (LSt.upd (sl _ _ e4) (by intro xs z;cases z))),[],by rw [ao nlw];exact ae,.nil⟩
  generalize upd (upd H4 lo (.dT [])) wb (.frz o (.dT kvs))=H6 at R0 ⊢;have lw:=w4.length;have wok:=GD.ic (G:=aQ ds) (so:=soN ds) (U:=uN us) (n:=n) r;have hstep:GD.c9 (aQ ds) (soN ds) (uN us) n (r+1)=(GD.c9 (aQ ds) (soN ds) (uN us) n r).foldl (fun acc w=>GD.eg n acc w (GD.bY (aQ ds) (soN ds) (uN us) n w.1)) []:=rfl;rw [hstep];generalize GD.c9 (aQ ds) (soN ds) (uN us) n r=ws at lw wok R0 ⊢;refine xU (fun i σ H'=>RoundH H2 H' wb lo o kvs ws ((ws.take i).foldl (fun acc w=>GD.eg n acc w (GD.bY (aQ ds) (soN ds) (uN us) n w.1)) [])/\∃o6 o7 o8,σ=[some (.ref a),some (.ref b),some (.ref ly),some (.ref ev),some (.ref wb),some (.ref lo),o6,o7,o8]) ⟨R0,zAL _ _ _ rfl⟩ (fun i σ H' _ h=>h.1.old) ?_ ?_
  ·rintro i k v bb σ H7 p hki hb hp ⟨R,o6,o7,o8,rfl⟩;obtain ⟨w,hwi,ek,c,ev2,hlc⟩:=Paired.get R.wsv hki;subst ev2;subst ek;obtain ⟨hi,ei⟩:=zq7.mp hwi;simp_arith! [rT];refine zAC _ (SqT.of ae) rfl ?_;have sp:=Same.upd (o:=.tup [.ref bb,.ref c]) hp;have R8:=R.mv sp;have hb8:=sp _ _ hb;have hlc8:=hlc.same sp;generalize upd H7 p (.tup [.ref bb,.ref c])=H8 at R8 hb8 hlc8 ⊢;rw [ua] at hb8;simp_arith! [rT];refine bQ (R8.same _ _ hob) rfl (zAN ds us w.1 (L2.same R8.same) (SqT.of hb8) fun c2 H9 s9 hl9=>?_);rw [<- hn] at hl9;obtain ⟨ps,hc2,hps⟩:=hl9;have lps:=hps.length;have R9:=R8.mv s9;have hl:=wok.lay w (bg hwi);obtain ⟨acc,hacc⟩:∃acc,acc=(ws.take i).foldl (fun acc w=>GD.eg n acc w (GD.bY (aQ ds) (soN ds) (uN us) n w.1)) []:=⟨_,rfl⟩
   have eacc:(ws.take (i+1)).foldl (fun acc w=>GD.eg n acc w (GD.bY (aQ ds) (soN ds) (uN us) n w.1)) []=GD.eg n acc w (GD.bY (aQ ds) (soN ds) (uN us) n w.1):=by rw [df hi,ei,qJ,hacc];rfl
   have aok:GD.WOk (aQ ds) (soN ds) (uN us) n (r+1) acc:=by rw [hacc];exact GD.WOk.step _ _ (fun x hx=>wok.lay x (vp hx)) ⟨fun x hx=>(by cases hx),Jll⟩
   rw [eacc];rw [<- hacc] at R9;have hfine:∀b∈GD.bY (aQ ds) (soN ds) (uN us) n w.1,GD.Fine (aQ ds) (soN ds) (uN us) w.1 (GD.cj n w.1) b/\b∈GD.bY (aQ ds) (soN ds) (uN us) n w.1:=fun b hb=>⟨GD.ir hpos2 hb,hb⟩
   generalize hbs:GD.bY (aQ ds) (soN ds) (uN us) n w.1=bs at hps hfine lps ⊢;refine zAC c2 rfl ⟨_,SqL.of hc2⟩ ?_;refine cr (xs:=ps.map V.ref) (fun j σ H'=>RoundH H2 H' wb lo o kvs ws (GD.eg n acc w (bs.take j))/\LSt H9 H'/\H' bb=some (.tup (nl w.1))/\∃o8,σ=[some (.ref a),some (.ref b),some (.ref ly),some (.ref ev),some (.ref wb),some (.ref lo),some (.ref bb),some (.ref c),o8]) (zAF (by simpa [GD.eg] using R9) (fun _ _ e=>e) (s9 _ _ hb8) ⟨_,rfl⟩) (fun j σ H' _ h=>SqL.of (h.2.1 _ _ hc2)) ?_ ?_
   ·rintro j x σ H10 hx ⟨R10,ls,hb10,o9,rfl⟩;rw [bq] at hx;obtain ⟨bp,hbp,rfl⟩:=zq47.mp hx;obtain ⟨bt,hbt,hpb⟩:=Paired.get hps hbp;obtain ⟨hj,ej⟩:=zq7.mp hbt;obtain ⟨hf,hff⟩:=hfine bt (bg hbt);rwa [];obtain ⟨kv2,elo,wlo⟩:=R10.now;have hcan:=hl.1.can;have hwl:w.1.length<=8:=by have:=hcan.len;omega
    have hbl:bt.length<=8:=by have:=hf.sub.length_le;have:=oR (n:=n) (dn:=w.1);omega
    have aok':GD.WOk (aQ ds) (soN ds) (uN us) n (r+1) (GD.eg n acc w (bs.take j)):=GD.WOk.add hl.1 hl.2 _ _ (fun b hb=>by rw [hbs];exact (hfine b (vp hb)).2) aok;have hkl:kv2.length<=256:=by rw [wlo.length];exact dX aok'.len (dX (AQ Jkm h8) Jkm)
    obtain ⟨cs,hcc,hcs⟩:=(hlc8.same s9).lst ls;have lcs:=hcs.length;have lr:=hl.2;refine ⟨.inr (.inr (.inl ⟨rfl,.inr ⟨kv2,elo⟩⟩)),zn (nl w.1) (.inr (SqT.of hb10)) (fun l1 hl1=>zAD (nl w.1) (nl bt) ae (Same.upd hl1 _ _ (ls _ _ hpb)) (by rw [eZ,eZ,b9];omega) fun l2 hl2=>?_)⟩;have Sb:=(Same.upd (o:=.lst (nl w.1)) hl1).trans (Same.upd (o:=.lst (nl w.1++nl bt)) hl2);have eb:upd (upd H10 l1 (.lst (nl w.1))) l2 (.lst (nl w.1++nl bt)) l2=some (.lst (((w.1++bt).map fun p:Nat=>(p:Int)).map V.int)):=by rw [ae,eG,cq];rfl
    generalize upd (upd H10 l1 (.lst (nl w.1))) l2 (.lst (nl w.1++nl bt))=Hb at Sb eb ⊢;refine zAC _ (SqL.of eb) (by rw [zq4,zq8];omega) fun l3 ns' hl3 hperm hsort=>?_;have ens:ns'=(GD.cS n w.1 bt).map fun p:Nat=>(p:Int):=List.Perm.eq_of_pairwise (fun x y _ _ h1 h2=>Int.le_antisymm h1 h2) hsort (zq125.mpr ((GD.mt (n:=n) (dn:=w.1) (b:=bt)).sorted.imp fun h=>Jlk)) (hperm.trans ((GD.jO hcan hf.sub).map _));subst ens;have Sc:=Sb.trans (Same.upd (o:=.lst (((GD.cS n w.1 bt).map fun p:Nat=>(p:Int)).map V.int)) hl3);have ec:upd Hb l3 (.lst (((GD.cS n w.1 bt).map fun p:Nat=>(p:Int)).map V.int)) l3=some (.lst (nl (GD.cS n w.1 bt))):=by rw [ae,eG];rfl
    generalize upd Hb l3 (.lst (((GD.cS n w.1 bt).map fun p:Nat=>(p:Int)).map V.int))=Hc at Sc ec ⊢;refine ⟨_,.inl ⟨SqL.of ec,fun l4 hl4 l5 hl5=>zAD (cs.map V.ref) ([.ref bp]) (((Sc.trans (Same.upd hl4)).trans (Same.upd hl5)) _ _ hcc) ae (by rw [zq4,bV,b9];omega) fun l6 hl6=>?_⟩⟩;have Se:=(Same.upd (o:=.lst [V.ref bp]) hl5).trans (Same.upd (o:=.lst (cs.map V.ref++[.ref bp])) hl6);have Sf:=(Sc.trans (Same.upd (o:=.tup (nl (GD.cS n w.1 bt))) hl4)).trans Se;have e4':upd (upd (upd Hc l4 (.tup (nl (GD.cS n w.1 bt)))) l5 (.lst [V.ref bp])) l6 (.lst (cs.map V.ref++[.ref bp])) l4=some (.tup (nl (GD.cS n w.1 bt))):=Se _ _ ae;have e6:LLN (upd (upd (upd Hc l4 (.tup (nl (GD.cS n w.1 bt)))) l5 (.lst [V.ref bp])) l6 (.lst (cs.map V.ref++[.ref bp]))) l6 (w.2++[bt]):=zn (cs++[bp]) (by rw [ae,cq];rfl) (Paired.snoc (Paired.mapP hcs fun _ _ z=>Sf _ _ z) (Sf _ _ (ls _ _ hpb)))
    generalize upd (upd (upd Hc l4 (.tup (nl (GD.cS n w.1 bt)))) l5 (.lst [V.ref bp])) l6 (.lst (cs.map V.ref++[.ref bp]))=Hf at Sf e4' e6 ⊢;have eadd:GD.eg n acc w (bs.take (j+1))=GD.i6 (GD.eg n acc w (bs.take j)) (GD.cS n w.1 bt) (w.2++[bt]):=by rw [df hj,ej];unfold GD.eg;rw [qJ];rfl
    rw [eadd];have R11:=R10.mv Sf;have wlo':=wlo.lst (LSt.of Sf);refine zAP kv2 (km (GD.cS n w.1 bt)) (Sf _ _ elo) (by rw [ua];exact e4') (by rw [b9];omega) (fun y hy=>?_) fun hy=>?_
    ·rcases wlo'.val (GD.cS n w.1 bt) with ⟨_,hv2⟩ | ⟨w2,hw2,hk2,_⟩
     ·rw [hy] at hv2;cases hv2
     ·unfold GD.i6;rw [zq2 (zq43.mpr ⟨w2,hw2,hk2⟩)];exact zAF R11 (ls.trans (LSt.of Sf)) (Sf _ _ hb10) ⟨_,rfl⟩
    ·rcases wlo'.val (GD.cS n w.1 bt) with ⟨hk2,_⟩ | ⟨_,_,_,_,hv2,_⟩
     ·refine zAF (R11.put (Sf _ _ elo) wlo' hk2 e6) ((ls.trans (LSt.of Sf)).trans (LSt.upd (Sf _ _ elo) (by intro xs z;cases z))) ?_ ⟨_,rfl⟩;rw [ao (du (Sf _ _ hb10) (Sf _ _ elo) (by intro z;cases z))];exact Sf _ _ hb10
     ·rw [hy] at hv2;cases hv2
   ·rintro σ H10 ⟨R10,ls,hb10,o9,rfl⟩;rw [zq4,lps,ef] at R10;exact ⟨R10,zAL _ _ _ rfl⟩
  ·rintro σ H7 ⟨R,o6,o7,o8,rfl⟩;rw [lw,ef] at R;refine later ?_;rwa [];obtain ⟨kv2,e7,w7⟩:=R.now;refine later ?_;rwa [];exact zAS lo kv2 _ _ _ _ (zAJ rfl R.same R.fr e7 w7)
 ·rw [hv];rw [zq1 Jll];refine later ?_;rwa [];refine zAA wb _ rfl (by have z:=DGet.t (k:=km (List.range n)) e4 (by rw [ua];exact s4 _ _ e2);rw [hv] at z;exact z) ?_;exact q c r w'.2 H4 (s2.trans s4) hl (by rw [<- hk'];exact hw') hno
theorem nH{n:Nat}{w x:List Nat×List (List Nat)}:∀(bs:List (List Nat)) (acc:List (List Nat×List (List Nat))),x∈GD.eg n acc w bs->x∈acc\/∃b∈bs,x=(GD.cS n w.1 b,w.2++[b])
 | [],_,h=>.inl h
 |b::bs,acc,h=>by
  rcases nH bs _ h with h | ⟨c,hc,e⟩
  ·rcases GD.iC h with h | h
   ·exact .inl h
   ·exact .inr (zn b Jll h)
  ·exact .inr (zn c (b7 _ hc) e)
theorem pX{n:Nat}{G:Nat->Nat->Option Int}{so:Nat->Nat}{U:Nat->Int}{x:List Nat×List (List Nat)}:∀(ws acc:List (List Nat×List (List Nat))),x∈ws.foldl (fun acc w=>GD.eg n acc w (GD.bY G so U n w.1)) acc->x∈acc\/∃w∈ws,∃b∈GD.bY G so U n w.1,x=(GD.cS n w.1 b,w.2++[b])
 | [],_,h=>.inl h
 |w::ws,acc,h=>by
  rcases pX ws _ h with h | ⟨v,hv,e⟩
  ·rcases nH _ _ h with h | ⟨b,hb,e⟩
   ·exact .inl h
   ·exact .inr (zn w Jll (zn b hb e))
  ·exact .inr (zn v (b7 _ hv) e)
structure sP(G:Nat->Nat->Option Int)(so:Nat->Nat)(U:Nat->Int)(bss:List (List Nat))(dn:List Nat):Prop where
 ne:∀b∈bss,b≠[]
 srt:∀b∈bss,b.Pairwise (· < ·)
 perm:bss.flatten.Perm dn
 load:∀b∈bss,∀s,s<3->(GD.fB so b s:Int)<=U s
 lean:∀(i:Nat)b k,bss[i]?=some b->k∈b->∀j,j<k->∀l,G j k=some l->∃(i':Nat)(b':List Nat),bss[i']?=some b'/\j∈b'/\(i':Int)+l<=i
theorem ma{n:Nat}{G:Nat->Nat->Option Int}{so:Nat->Nat}{U:Nat->Int}(hU:∀s,s<3->0<U s)(hG:∀j k l,G j k=some l->l<=1):∀r,(∀k,k<r->List.range n∉(GD.c9 G so U n k).map (·.1))->∀w∈GD.c9 G so U n r,sP G so U w.2 w.1
 |0,_,w,hw=>by
  rw [GD.c9,zq9] at hw;subst hw;exact ⟨fun b h=>(by cases h),fun b h=>(by cases h),.refl _,fun b h=>(by cases h),fun i b k h=>by simp at h⟩
 |r+1,hno,w,hw=>by
  rcases pX _ _ hw with h | ⟨v,hv,b,hb,rfl⟩
  ·cases h
  have ih:=ma hU hG r (fun k hk=>hno k Jlk) v hv;have hcan:=((GD.ic r).lay v hv).1.can;have hne:v.1≠List.range n:=fun e=>hno r Jlk (zq43.mpr (zn v hv e));have fb:=GD.ir hU hb;refine ⟨fun c hc=>?_,fun c hc=>?_,?_,fun c hc=>?_,fun i c k hi hk j hj l hl=>?_⟩
  ·rcases zq20.mp hc with hc | hc
   ·exact ih.ne c hc
   ·rw [zq9.mp hc];exact GD.tQ hU hb (hcan.miss hne)
  ·rcases zq20.mp hc with hc | hc
   ·exact ih.srt c hc
   ·rw [zq9.mp hc];exact List.Pairwise.sublist fb.sub GD.fE
  ·rw [List.flatten_append];simp only [List.flatten_cons,List.flatten_nil,List.append_nil];exact (ih.perm.append_right b).trans (GD.jO hcan fb.sub)
  ·rcases zq20.mp hc with hc | hc
   ·exact ih.load c hc
   ·rw [zq9.mp hc];exact fb.load
  ·by_cases hlt:i<v.2.length
   ·rw [gH hlt] at hi;obtain ⟨i',b',h1,h2,h3⟩:=ih.lean i c k hi hk j hj l hl;have:=(zq7.mp h1).1;exact zAA i' b' (by rw [gH this];exact h1) h2 h3
   ·have hil:=(zq7.mp hi).1;rw [zq8,bV] at hil;obtain rfl:i=v.2.length:=by omega
    rw [gG (zq6 _),nA] at hi
    cases hi
    have z:=fb.lean k hk j hj;unfold GD.cO at z;rw [hl] at z;simp only [Bool.or_eq_true,Bool.and_eq_true,decide_eq_true_eq] at z;rcases z with z | ⟨z1,z2⟩
    ·obtain ⟨b',hb',hjb⟩:=zq127.mp (ih.perm.mem_iff.mpr z);obtain ⟨i',hi',e⟩:=List.mem_iff_getElem.mp hb';refine zAA i' b' (by rw [gH hi',zq5 hi',e]) hjb ?_;have:=hG j k l hl;omega
    ·exact zAA v.2.length b (by rw [gG (zq6 _),nA];rfl) z2 Jlk
theorem EE{ds:List FB.Deed}{j k:Nat}{l:Int}(h:aQ ds j k=some l):0<=l/\l<=1:=by
 unfold aQ at h
 split at h
 ·unfold FB.oF at h
  split at h
  ·cases h;decide
  ·split at h
   ·cases h;decide
   ·split at h
    ·cases h;decide
    ·cases h
 ·cases h
variable {i:Nat} {us:List Int}
def jz(ds:List FB.Deed)(p:Nat):FB.Deed:=ds.getD p (.tell (.word 0))
def aV(ds:List FB.Deed)(bss:List (List Nat)):List (List FB.Deed):=bss.map fun b=>b.map (jz ds)
def wrB(ds:List FB.Deed)(n:Str):Bool:=ds.any fun d=>decide (wrV d=.str n)
def gU(bs:List (List FB.Deed)):List FB.Deed:=bs.getLastD []
def iS(bs:List (List FB.Deed)):FZ.Ed->Bool
 | .choose n _ _=>wrB (gU bs) n
 |_=>false
def eD(b:FZ.Blk)(bss:List (List Nat)):List (List FB.Deed):=if (aV b.ds bss).isEmpty || iS (aV b.ds bss) b.ed then aV b.ds bss++[[]] else aV b.ds bss
def HG(fs:List Nat):FZ.Ed->FZ.Ed
 | .stop=>.stop
 | .go i=>.go (fs.getD i 0)
 | .choose n i j=>.choose n (fs.getD i 0) (fs.getD j 0)
def eN(l:List (List (List FB.Deed))):Nat:=(l.map List.length).sum
def bM(bbs:List (List (List FB.Deed))):List Nat:=(List.range bbs.length).map fun i=>eN (bbs.take i)
def iW(m:Nat)(bs:List (List FB.Deed))(ed:FZ.Ed):List FZ.Blk:=(bs.dropLast.mapIdx fun j d=>⟨d,.go (m+j+1)⟩)++[⟨gU bs,ed⟩]
def qM(fs:List Nat)(acc:List FZ.Blk)(p:FZ.Blk×List (List FB.Deed)):List FZ.Blk:=acc++iW acc.length p.2 (HG fs p.1.ed)
def gE(B:List FZ.Blk)(bbs:List (List (List FB.Deed))):List FZ.Blk:=(B.zip bbs).foldl (qM (bM bbs)) []
def fm(us:List Int)(b:FZ.Blk)(bs:List (List FB.Deed)):Prop:=∃bss,sP (aQ b.ds) (soN b.ds) (uN us) bss (List.range b.ds.length)/\bs=eD b bss
theorem kT{b:FZ.Blk}{bss:List (List Nat)}:eD b bss≠[]:=by
 unfold eD
 split
 ·simp
 ·next h=>intro z;rw [z] at h;exact h rfl
theorem BF{bs:List (List FB.Deed)}(h:bs≠[]):bs=bs.dropLast++[gU bs]:=by unfold gU;rw [AR,List.getLast?_eq_some_getLast h,Option.getD_some];exact (AC h).symm
theorem wK{m:Nat}{bs:List (List FB.Deed)}{ed:FZ.Ed}(h:bs≠[]):(iW m bs ed).length=bs.length:=by unfold iW;rw [zq8,AS,nv,bV];have:=zq62.mpr h;omega
theorem pC{m:Nat}{bs:List (List FB.Deed)}{ed:FZ.Ed}(h:bs≠[]):∀r∈iW m bs ed,r.ds∈bs:=fun r hr=>by
 unfold iW at hr;rw [BF h];rcases zq20.mp hr with hr | hr
 ·obtain ⟨j,hj,e⟩:=List.mem_mapIdx.mp hr;rw [<- e];exact fk _ (dH _)
 ·rw [zq9.mp hr];exact cW _ (zq9.mpr rfl)
theorem pD{m:Nat}{bs:List (List FB.Deed)}{ed:FZ.Ed}(h:bs≠[]):∀r∈iW m bs ed,r.ed=ed\/∃k,r.ed=.go k/\k<m+bs.length:=fun r hr=>by
 unfold iW at hr;rcases zq20.mp hr with hr | hr
 ·obtain ⟨j,hj,e⟩:=List.mem_mapIdx.mp hr;rw [<- e];rw [nv] at hj;exact .inr (zn _ rfl Jlk)
 ·rw [zq9.mp hr];exact .inl rfl
theorem eO{bbs:List (List (List FB.Deed))}{bs:List (List FB.Deed)}(h:bbs[i]?=some bs):eN (bbs.take (i+1))=eN (bbs.take i)+bs.length:=by obtain ⟨hi,e⟩:=zq7.mp h;unfold eN;rw [df hi,e,cq,AF];simp
theorem jk{bbs:List (List (List FB.Deed))}(i:Nat):eN (bbs.take i)<=eN bbs:=by
 unfold eN
 conv=>rhs;rw [<- Ee i bbs,cq,AF]
 exact qI _ _
theorem lC{bbs:List (List (List FB.Deed))}(hne:∀bs∈bbs,bs≠[])(hi:i<bbs.length):(bM bbs).getD i 0=eN (bbs.take i)/\eN (bbs.take i)<eN bbs:=by
 refine ⟨?_,?_⟩
 ·unfold bM;rw [cn,bq,xh hi];rfl
 ·have h1:=eO (zq5 hi);have h2:=jk (bbs:=bbs) (i+1);have h3:=zq62.mpr (hne _ (dH hi));omega
def iE(B:List FZ.Blk)(bbs:List (List (List FB.Deed)))(i:Nat):List FZ.Blk:=((B.zip bbs).take i).foldl (qM (bM bbs)) []
theorem fV{B:List FZ.Blk}{bbs:List (List (List FB.Deed))}{b:FZ.Blk}{bs:List (List FB.Deed)}(hb:B[i]?=some b)(hs:bbs[i]?=some bs):iE B bbs (i+1)=qM (bM bbs) (iE B bbs i) (b,bs):=by
 have hz:(B.zip bbs)[i]?=some (b,bs):=by rw [Ef];exact ⟨hb,hs⟩
 obtain ⟨hi,e⟩:=zq7.mp hz;unfold iE;rw [df hi,e,qJ];rfl
theorem fI{B:List FZ.Blk}{bbs:List (List (List FB.Deed))}(hl:B.length=bbs.length):iE B bbs B.length=gE B bbs:=by unfold iE gE;rw [qH (by rw [vq];omega)]
theorem fJ{B:List FZ.Blk}{bbs:List (List (List FB.Deed))}(hl:B.length=bbs.length)(hne:∀bs∈bbs,bs≠[]):∀i,i<=B.length->(iE B bbs i).length=eN (bbs.take i)
 |0,_=>rfl
 |i+1,hi=>by have hb:B[i]?=some B[i]:=zq5 Jlk;have hs:bbs[i]?=some bbs[i]:=zq5 Jlk;rw [fV hb hs,eO hs,qM,zq8,fJ hl hne i Jlk,wK (hne _ (dH _))]
theorem Ae{ns:List Str}{w:Int}{us:List Int}{B:List FZ.Blk}{bbs:List (List (List FB.Deed))}(hl:B.length=bbs.length)(hne:∀bs∈bbs,bs≠[])(hG:FZ.iX ns w B.length B)(hd:∀(i:Nat)b bs,B[i]?=some b->bbs[i]?=some bs->∀l∈bs,l.length<=8/\∀d∈l,d∈b.ds):
  ∀i,i<=B.length->FZ.iX ns w (eN bbs) (iE B bbs i)
 |0,_=>fun r hr=>by cases hr
 |i+1,hi=>fun r hr=>by
  have hb:B[i]?=some B[i]:=zq5 Jlk;have hs:bbs[i]?=some bbs[i]:=zq5 Jlk;have hn:=hne _ (bg hs);rw [fV hb hs,qM] at hr;rcases zq20.mp hr with hr | hr
  ·exact Ae (us:=us) hl hne hG hd i Jlk r hr
  have hbG:=hG _ (bg hb);have h1:=hd i _ _ hb hs r.ds (pC hn r hr);have ht:∀k,k∈B[i].ed.tg->(bM bbs).getD k 0<eN bbs:=fun k hk=>by have hz:=lC hne (i:=k) (by have:=hbG.tg k hk;omega);rw [hz.1];exact hz.2
  refine ⟨fun d hd2=>hbG.gd d (h1.2 d hd2),h1.1,?_,?_⟩
  ·rcases pD hn r hr with e | ⟨k,e,hk⟩
   ·rw [e]
    cases he:B[i].ed with
    |stop=>intro z hz;cases hz
    |go k=>rw [he] at ht;intro z hz;rw [zq9.mp hz];exact ht k (by simp [FZ.Ed.tg])
    |choose n k j=>
     rw [he] at ht;intro z hz;have hz':z∈[(bM bbs).getD k 0,(bM bbs).getD j 0]:=hz;rcases zq11.mp hz' with y | y
     ·rw [y];exact ht k (by simp [FZ.Ed.tg])
     ·rw [zq9.mp y];exact ht j (by simp [FZ.Ed.tg])
   ·rw [e];intro z hz;rw [zq9.mp hz];rw [fJ hl hne i Jlk] at hk;have h2:=eO hs;have h3:=jk (bbs:=bbs) (i+1);omega
  ·intro n k j e2;rcases pD hn r hr with e | ⟨k',e,_⟩
   ·rw [e] at e2
    cases he:B[i].ed with
    |stop=>rw [he] at e2;cases e2
    |go k=>rw [he] at e2;cases e2
    |choose n' k' j'=>rw [he] at e2;cases e2;exact hbG.nm n k' j' he
   ·rw [e] at e2;cases e2
theorem uX{B:List FZ.Blk}{bbs:List (List (List FB.Deed))}(hl:B.length=bbs.length)(hne:∀bs∈bbs,bs≠[]){Z:List FB.Deed->Prop}(hz:∀bs∈bbs,∀l∈bs,Z l):∀i,i<=B.length->∀r∈iE B bbs i,Z r.ds
 |0,_=>fun r hr=>by cases hr
 |i+1,hi=>fun r hr=>by
  have hb:B[i]?=some B[i]:=zq5 Jlk;have hs:bbs[i]?=some bbs[i]:=zq5 Jlk;rw [fV hb hs,qM] at hr;rcases zq20.mp hr with hr | hr
  ·exact uX hl hne hz i Jlk r hr
  ·exact hz _ (bg hs) _ (pC (hne _ (bg hs)) r hr)
structure BeatP(us:List Int)(l:List FB.Deed):Prop where
 one:l.Pairwise fun d e=>¬(d.tells=true/\e.tells=true)/\∀n∈d.writes,n∉e.writes
 load:∀s,s<3->((l.countP fun d=>decide (lZ d=s)):Int)<=uN us s
theorem BeatP.nil(h:∀s,s<3->0<=uN us s):BeatP us []:=⟨.nil,fun s hs=>h s hs⟩
theorem oz:∀{bss:List (List Nat)} {i i':Nat} {b b':List Nat} {j:Nat},bss.flatten.Nodup->bss[i]?=some b->bss[i']?=some b'->j∈b->j∈b'->i=i'
 | [],i,i',b,b',j,_,h,_,_,_=>by simp at h
 |c::r,i,i',b,b',j,nd,h,h',m,m'=>by
  rw [AT,zq65] at nd
  match i,i',h,h' with
  |0,0,_,_=>rfl
  |0,k+1,h,h'=>
   cases h
   exact absurd rfl (nd.2.2 j m j (zq127.mpr (zn b' (bg h') m')))
  |k+1,0,h,h'=>
   cases h'
   exact absurd rfl (nd.2.2 j m' j (zq127.mpr (zn b (bg h) m)))
  |k+1,k'+1,h,h'=>rw [oz nd.2.1 h h' m m']
theorem iu{ds:List FB.Deed}{bss:List (List Nat)}(h:sP (aQ ds) (soN ds) (uN us) bss (List.range ds.length)):∀b∈bss,BeatP us (b.map (jz ds))/\b.length<=ds.length/\∀p∈b,p<ds.length:=fun b hb=>by
 have nd:bss.flatten.Nodup:=h.perm.nodup_iff.mpr List.nodup_range;have lt:∀p∈b,p<ds.length:=fun p hp=>zq33.mp (h.perm.mem_iff.mp (zq127.mpr (zn b hb hp)));obtain ⟨i,hi⟩:=zq55.mp hb;refine zAB ⟨?_,fun s hs=>?_⟩ ?_ lt
 ·rw [zq125];refine List.Pairwise.imp_of_mem (fun {j k} hj hk hjk=>?_) (h.srt b hb);have no:aQ ds j k≠some 1:=fun e=>by obtain ⟨i',b',h1,h2,h3⟩:=h.lean i b k hi hk j hjk 1 e;have:=oz nd hi h1 hj h2;omega
  have e1:ds[j]?=some (jz ds j):=by unfold jz;rw [cn,zq5 (lt j hj)];rfl
  have e2:ds[k]?=some (jz ds k):=by unfold jz;rw [cn,zq5 (lt k hk)];rfl
  unfold aQ at no;rw [e1,e2] at no;dsimp only at no;unfold FB.oF at no;refine ⟨fun z=>?_,fun n hn hn2=>?_⟩
  ·rw [zq2 z] at no;exact no rfl
  ·split at no
   ·exact no rfl
   ·rw [zq2 ⟨n,hn,.inr hn2⟩] at no;exact no rfl
 ·have z:=h.load b hb s hs;unfold GD.fB at z;rw [AM];exact z
 ·have z:=h.perm.length_eq;rw [cX] at z;have:=(List.sublist_flatten_of_mem hb).length_le;omega
theorem dO{b:FZ.Blk}{bs:List (List FB.Deed)}(hu:∀s,s<3->0<=uN us s)(h8:b.ds.length<=8)(h:fm us b bs):bs≠[]/\∀l∈bs,BeatP us l/\l.length<=8/\∀d∈l,d∈b.ds:=by
 obtain ⟨bss,hg,rfl⟩:=h;refine ⟨kT,fun l hl=>?_⟩;have old:l∈aV b.ds bss->BeatP us l/\l.length<=8/\∀d∈l,d∈b.ds:=fun hl=>by obtain ⟨c,hc,rfl⟩:=zq43.mp hl;obtain ⟨h1,h2,h3⟩:=iu hg c hc;refine zAB h1 (by rw [zq4];omega) fun d hd=>?_;obtain ⟨p,hp,rfl⟩:=zq43.mp hd;unfold jz;rw [cn,zq5 (h3 p hp)];exact dH _
 unfold eD at hl
 split at hl
 ·rcases zq20.mp hl with hl | hl
  ·exact old hl
  ·rw [zq9.mp hl];exact zAB (BeatP.nil hu) (bT _) (fun d hd=>by cases hd)
 ·exact old hl
def qh(l:List FB.Deed):List Str:=l.flatMap FB.Deed.writes
def bfB(us:List Int)(l:List FB.Deed):Bool:=decide ((dA (qh l)).length=(qh l).length)&&decide (l.length<=(qh l).length+1)&&(List.range 3).all fun s=>decide (((l.countP fun d=>decide (lZ d=s)):Int)<=uN us s)
theorem Hg{d:FB.Deed}:d.writes.length=if d.tells then 0 else 1:=by cases d<;>rfl
theorem Am:∀{l:List FB.Deed},(l.Pairwise fun d e=>¬(d.tells=true/\e.tells=true)/\∀n∈d.writes,n∉e.writes)->(qh l).Nodup/\l.length<=(qh l).length+1/\((∀d∈l,d.tells=false)->(qh l).length=l.length)
 | [],_=>zAB vf (bT _) fun _=>rfl
 |d::l,h=>by
  rw [AA] at h;obtain ⟨h1,h2,h3⟩:=Am h.2;have e:qh (d::l)=d.writes++qh l:=rfl;rw [e,zq8,d5,Hg];refine zAB (zq65.mpr (zAB (by cases d<;>simp [FB.Deed.writes]) h1 fun a ha b hb ab=>?_)) ?_ fun z=>?_
  ·subst ab;obtain ⟨c,hc,hac⟩:=zq103.mp hb;exact (h.1 c hc).2 a ha hac
  ·split
   ·next ht=>
    have:=h3 fun c hc=>by
     cases hct:c.tells with
     |false=>rfl
     |true=>exact absurd ⟨ht,hct⟩ (h.1 c hc).1
    omega
   ·omega
  ·rw [zq1 (by rw [z d Jll];decide),h3 fun c hc=>z c (b7 _ hc)];omega
theorem BeatP.bf{l:List FB.Deed}(h:BeatP us l):bfB us l=true:=by obtain ⟨h1,h2,_⟩:=Am h.one;unfold bfB;rw [bC ((wl _).2.2.mpr h1),bC h2,AN,AN,zq48];exact fun s hs=>bC (h.load s (zq33.mp hs))
def xu(K:W.Frag)(e f:Addr)(H:Hp)(Q:VK):Prop:=∃(ed:FZ.Ed)(fs:List Nat),H e=some (.tup (d8 ed))/\SqL K H f (nl fs)/\(∀i∈ed.tg,i<fs.length)/\∀e' H',Same H H'->H' e'=some (.tup (d8 (HG fs ed)))->Q (.ref e') H'
def zP(K:W.Frag):Sp:=fun vs H Q _=>∃e f:Addr,vs=[.ref e,.ref f]/\xu K e f H Q
def tD(K:W.Frag)(a:Addr)(n:Str)(H:Hp)(Q:VK):Prop:=∃(xs:List V)(ds:List FB.Deed),SqL K H a xs/\Paired (DeedV1 K H) xs ds/\ds.length<=1000/\∀H',Same H H'->Q (.bl (wrB ds n)) H'
def uT(K:W.Frag):Sp:=fun vs H Q _=>∃(a:Addr)(n:Str),vs=[.ref a,.str n]/\tD K a n H Q
section
variable {K:W.Frag} {te:TE} {ci:List Nat} {σ:L2.St} {acc:Addr} {Q:Hp->Prop} {H1:Hp} {a:Addr} {xs:List V}
theorem fL(fs:List V)(hz:xs.length<=sizeLine)(hlen:xs.length=fs.length)(hl:SqL K H1 a xs)(hacc:H1 acc=none)
  (hf:∀(i:Nat)x y,xs[i]?=some x->fs[i]?=some y->∀H Q',Same H1 H->(∀H',Same H H'->Q' y H')->te (aK [some x] ci σ) H Q')
  (q:∀H,Same H1 H->H acc=some (.lst fs)->Q H):cw (Itl K a) (bD 1) kA te 1 ci σ acc Q (upd H1 acc (.lst [])):=by
 refine cP (fun i ys H=>ys=fs.take i/\Same H1 H/\H acc=some (.lst ys)) (zAB Jll (Same.upd hacc) ae) (fun i ys H _ h=>h.2.1.seq hl) ?_ ?_
 ·rintro i x ys H os hi ho ⟨rfl,sm,ha⟩;have hi':i<fs.length:=by have:=(zq7.mp hi).1;omega
  have e:(aK os ci σ).set 1 (some x)=aK [some x] ci σ:=by
   match os,ho with
   | [o],_=>rfl
  show (∃os',os'.length=1/\(aK os ci σ).set 1 (some x)=aK os' ci σ)/\kA ((aK os ci σ).set 1 (some x)) H _;rw [e];refine ⟨zn ([some x]) rfl rfl,?_⟩;unfold kA;dsimp only;rw [zq2 rfl];exact hf i x fs[i] hi (zq5 hi') _ _ sm fun H3 s3=>zAJ (s3 _ _ ha) (by rw [dY];omega) (df hi').symm ((sm.trans s3).updM hacc) ae
 ·rintro ys H ⟨rfl,sm,ha⟩;rw [hlen,ef] at ha;exact q H sm ha
end
theorem uy{e f:Addr}{H:Hp}{Q:VK}{E:XK}:zP K [.ref e,.ref f] H Q E=xu K e f H Q:=propext ⟨by rintro ⟨_,_,e,q⟩;cases e;exact q,fun q=>zAE _ _ rfl q⟩
theorem zu{a:Addr}{n:Str}{H:Hp}{Q:VK}{E:XK}:uT K [.ref a,.str n] H Q E=tD K a n H Q:=propext ⟨by rintro ⟨_,_,e,q⟩;cases e;exact q,fun q=>zAE _ _ rfl q⟩
theorem mM{fs:List Nat}{i:Nat}(h:i<fs.length):(nl fs)[i]?=some (V.int (fs.getD i 0)):=by unfold nl;rw [bq,cn,zq5 h];rfl
theorem EY(T:Txt K mg t):FnOk P w K mg base CX0 1 t.f_101 t.e_101 ["ending","places"] (zP K):=by
 refine T.d_101.F.ok zG ∅ ?_;rintro cdv A outer s H vs Q E hr ⟨e,f,rfl,ed,fs,he,hf,ht,q⟩;refine ⟨_,
   (XSs.h
   (ai
    (aL (ap bu (ak ar (yqv 0 vl) af) aH (aA _))
     (aj
      (aw (aE (aa aH (aa (ak az (yqv 1 vl) (ak ar (yqv 0 vl) af)) ac)))))
     aC)
   (ai
    (aL (ap bu (ak ar (yqv 0 vl) af) aH (aA _))
     (aj
      (aw (aE (aa aH (aa (ak ar (yqv 0 vl) af) (aa (ak az (yqv 1 vl) (ak ar (yqv 0 vl) af)) (aa (ak az (yqv 1 vl) (ak ar (yqv 0 vl) af)) ac)))))))
     aC)
   (aj
    (aw (yqv 0 vl)))))),?_⟩
 rw [show aP _ [V.ref e,V.ref f]=[some (.ref e),some (.ref f)] from rfl];rwa []
 cases ed with
 |stop=>
  refine zAD _ _ (SqT.of he) rfl rfl (zn _ rfl ?_);rw [zq1 Jkk];refine zAD _ _ (SqT.of he) rfl rfl (zn _ rfl ?_);rw [zq1 Jkk];exact q e H (Same.refl H) he
 |go i=>
  refine zAD _ _ (SqT.of he) rfl rfl (zn _ rfl ?_);rw [zq2 Jkk];exact zAA _ _ (SqT.of he) rfl (ixL hf (mM (ht i (by simp [FZ.Ed.tg]))) fun p hp=>q p _ (Same.upd hp) ae)
 |choose n i j=>refine zAD _ _ (SqT.of he) rfl rfl (zn _ rfl ?_);rw [zq1 Jkk];refine zAD _ _ (SqT.of he) rfl rfl (zn _ rfl ?_);rw [zq2 Jkk];exact zAA _ _ (SqT.of he) rfl (zAA _ _ (SqT.of he) rfl (ixL hf (mM (ht i (by simp [FZ.Ed.tg]))) (zAA _ _ (SqT.of he) rfl (ixL hf (mM (ht j (by simp [FZ.Ed.tg]))) fun p hp=>q p _ (Same.upd hp) ae))))
theorem BY(T:Txt K mg t):FnOk P w K mg base CX0 2 t.f_133 t.e_133 ["deeds","name"] (uT K):=by
 have G_122:=@jV P w K mg base t T;refine T.d_133.F.ok GM ∅ ?_;rintro cdv A outer s H vs Q E hr ⟨a,n,rfl,xs,ds,ha,hd,hl,q⟩;refine ⟨_,
   (XSs.h
   (aj
    (aw (aD (nT rfl) gl T.z_any boot_any (aa (br (tns:=["deed"]) (cns:=["name"]) (ci:=[1]) rfl (CompSc.of Jkl) (aN (yqv 0 vl)) (fun _=>(av (i:=1) (show List.Nodup [(".0":Str),("deed":Str),("name":Str)] by decide +kernel) rfl ll (Or.inr Jkl))) (fun _=>bN) (fun _=>(cz bu (au T.d_122 G_122 hr.m (aa (yqv 1 vl) ac) gl) (yqv 2 vc) (aA _)))) ac))))),?_⟩
 rw [show aP _ [V.ref a,V.str n]=[some (.ref a),some (.str n)] from rfl];rwa [fS];have lx:=hd.length;refine ⟨⟨_,ha⟩,fun acc hacc bk=>?_⟩;refine fL (ds.map fun d=>V.bl (decide (wrV d=.str n))) (by rw [b9];omega) (by rw [zq4];exact lx) ha hacc (fun i x y hx hy H2 Q' s2 h=>?_) fun H2 s2 e2=>?_
 ·obtain ⟨d,hd1,q0,rfl,hq0,hf⟩:=Paired.get hd hx;rw [bq,hd1] at hy
  cases hy
  rwa [fS];refine zAG d (s2.seqT hq0) hf ?_ (h H2 (Same.refl H2))
  cases d<;>rfl
 ·refine zn (ds.map fun d=>decide (wrV d=.str n)) (SqL.of (by rw [eG];exact e2)) ?_;rw [AO];exact q H2 s2
def BtsV(K:W.Frag)(N:Addr->Prop)(H:Hp)(c:Addr)(bs:List (List FB.Deed)):Prop:=∃ps:List Addr,H c=some (.lst (ps.map V.ref))/\Paired (fun p (l:List FB.Deed)=>N p/\∃vs,H p=some (.lst vs)/\Paired (DeedV1 K H) vs l) ps bs
structure Hk(K:W.Frag)(H:Hp)(q u:Addr)(b:FZ.Blk)(us:List Int):Prop where
 ex:∃a e vs,H q=some (.tup [.ref a,.ref e])/\H a=some (.lst vs)/\Paired (DeedV1 K H) vs b.ds/\H e=some (.tup (d8 b.ed))
 h8:b.ds.length<=8
 ut:SqT K H u (us.map V.int)
 h3:us.length=3
 hp:∀x∈us,0<x/\x<=3
def nL(K:W.Frag)(q u:Addr)(H:Hp)(Q:VK):Prop:=∃(b:FZ.Blk)(us:List Int),Hk K H q u b us/\∀c bs H',Same H H'->H c=none->fm us b bs->BtsV K (fun p=>H p=none) H' c bs->Q (.ref c) H'
def pK(K:W.Frag):Sp:=fun vs H Q _=>∃q u:Addr,vs=[.ref q,.ref u]/\nL K q u H Q
theorem uu{q u:Addr}{H:Hp}{Q:VK}{E:XK}:pK K [.ref q,.ref u] H Q E=nL K q u H Q:=propext ⟨by rintro ⟨_,_,e,q⟩;cases e;exact q,fun q=>zAE _ _ rfl q⟩
theorem ux{a b:Addr}{H:Hp}{Q:VK}{E:XK}:pM K [.ref a,.ref b] H Q E=∃(ds:List FB.Deed)(us:List Int),mh K H a b ds us/\∀c r bss H',Same H H'->LLN H' c bss->(List.range ds.length,bss)∈GD.c9 (aQ ds) (soN ds) (uN us) ds.length r->(∀k,k<r->List.range ds.length∉(GD.c9 (aQ ds) (soN ds) (uN us) ds.length k).map (·.1))->Q (.ref c) H':=propext ⟨by rintro ⟨_,_,ds,us,e,q⟩;cases e;exact zAH ds us q,fun ⟨ds,us,q⟩=>zAU _ _ ds us rfl q⟩
theorem n6{us:List Int}(h3:us.length=3)(hp:∀x∈us,0<x/\x<=3):∀s,s<3->0<uN us s:=fun s hs=>by unfold uN;rw [cn,zq5 Jlk];exact (hp _ (dH _)).1
theorem oG{G:Nat->Nat->Option Int}{so:Nat->Nat}{U:Nat->Int}{bss:List (List Nat)}{dn:List Nat}(h:sP G so U bss dn):bss.length<=dn.length:=by
 have z:=h.perm.length_eq;have g:∀l:List (List Nat),(∀b∈l,b≠[])->l.length<=l.flatten.length:=fun l=>by
  induction l with
  |nil=>intro _;exact bT _
  |cons b l ih=>intro hl;have h1:=ih fun c hc=>hl c (b7 _ hc);have h2:=zq62.mpr (hl b Jll);rw [AT,zq8,d5];omega
 have:=g bss h.ne;omega
theorem yo(T:Txt K mg t)(hw:t.pr=w.params):FnOk P w K mg base CX0 15 t.f_132 t.e_132 ["block","units"] (pK K):=by
 have G_125:=@yq P w K mg base t T hw;have G_133:=@BY P w K mg base t T;refine T.d_132.F.ok sc_132 ∅ ?_;rintro cdv A outer s H vs Q E hr ⟨q,u,rfl,b,us,hB,qk⟩;have hu:=lE hr;refine ⟨_,
   (XSs.h
   (ai
    (aq (i:=2) sc_132.nd rfl lc (ak ar (yqv 0 vl) af))
   (ai
    (aq (i:=3) sc_132.nd rfl ll (ak ar (yqv 0 vl) af))
   (ai
    (eC (i:=4) sc_132.nd rfl ll rfl Jkl (tns:=["beat"]) (cns:=["deeds"]) (ci:=[2]) rfl (CompSc.of Jkl) (aN (au T.d_125 G_125 hr.m (aa (yqv 2 vc) (aa (yqv 1 vl) ac)) gl)) (fun _=>(av (i:=1) (show List.Nodup [(".0":Str),("beat":Str),("deeds":Str)] by decide +kernel) rfl ll (Or.inr Jkl))) (fun _=>bN) (fun _=>(br (tns:=["place"]) (cns:=["deeds"]) (ci:=[2]) rfl (CompSc.of Jkl) (aN (yqv 1 vl)) (fun _=>(av (i:=1) (show List.Nodup [(".0":Str),("place":Str),("deeds":Str)] by decide +kernel) rfl ll (Or.inr Jkl))) (fun _=>bN) (fun _=>(ak az (yqv 2 vc) (yqv 1 vl))))))
   (ai
    (aL (bR (dh (ap (mO (n:=0) (jI Jkm hr)) (yqv 4 vl) (aI ac) (aA _)) (d7 (bR (cC (ap bu (ak ar (yqv 3 vl) af) aH (aA _)) (ck (cv (au T.d_133 G_133 hr.m (aa (ak az (yqv 4 vl) (kB ii af)) (aa (ak ar (yqv 3 vl) af) ac)) gl))))))))
     (aj
      (aR (c6 PySem.F.plainAttrs_list PySem.F.slot_list_append PySem.F.type_list_append aX (yqv 4 vl) (aa (aI ac) ac))))
     aC)
   (aj
    (aw (yqv 4 vl)))))))),?_⟩
 rw [show aP _ [V.ref q,V.ref u]=[some (.ref q),some (.ref u),none,none,none] from rfl];simp_arith! [ux,zu];obtain ⟨a,e,vs,hq,ha,hvs,he⟩:=hB.ex;have hds:DeedsV K H vs b.ds:=FL.Paired.imp hvs fun x _ d _ ⟨q0,e1,z1,z2⟩=>⟨z2,zn q0 e1 z1⟩
 have lvs:=hvs.length;have h8:=hB.h8;refine zAA _ _ (SqT.of hq) rfl ?_;refine later ?_;simp_arith! [];refine zAA _ _ (SqT.of hq) rfl ?_;refine later ?_;simp_arith! [ux];refine zAE b.ds us (zBI vs (SqL.of ha) hds h8 hB.ut hB.h3 hB.hp) fun c r bss H1 s1 hL hmem hno=>?_;have hg:=ma (n6 hB.h3 hB.hp) (fun j k l hl=>(EE hl).2) r hno _ hmem;obtain ⟨ps,hc,hps⟩:=hL;have lps:=hps.length;have lb:bss.length<=b.ds.length:=by have z:=oG hg;rwa [cX] at z
 have lbd:(aV b.ds bss).length=bss.length:=by unfold aV;rw [zq4]
 refine ⟨⟨_,SqL.of hc⟩,fun acc hacc bk=>?_⟩;refine cP (xs:=ps.map V.ref) (fun i ys H'=>Same H1 H'/\H' acc=some (.lst ys)/\∃rs:List Addr,ys=rs.map V.ref/\Paired (fun p (l:List FB.Deed)=>H1 p=none/\p≠acc/\∃vs,H' p=some (.lst vs)/\Paired (DeedV1 K H') vs l) rs ((aV b.ds bss).take i)) (zAB (Same.upd hacc) ae (zn ([]) rfl .nil)) (fun i ys H' _ h=>SqL.of (h.1 _ _ hc)) ?_ ?_
 ·rintro i x ys H2 os hi ho ⟨s2,ha2,rs,rfl,hrs⟩;rw [bq] at hi;obtain ⟨p,hp,rfl⟩:=zq47.mp hi;obtain ⟨bt,hbt,hpb⟩:=Paired.get hps hp;obtain ⟨_,_,hlt⟩:=iu hg bt (bg hbt);have eb:(aK os [2] [some (V.ref q),some (V.ref u),some (V.ref a),some (V.ref e),none]).set 1 (some (V.ref p))=aK [some (V.ref p)] [2] [some (V.ref q),some (V.ref u),some (V.ref a),some (V.ref e),none]:=by
   match os,ho with
   | [o],_=>rfl
  show (∃os',os'.length=1/\(aK os [2] [some (V.ref q),some (V.ref u),some (V.ref a),some (V.ref e),none]).set 1 (some (V.ref p))=aK os' [2] _)/\kA ((aK os [2] _).set 1 (some (V.ref p))) H2 _;rw [eb];refine ⟨zn ([some (V.ref p)]) rfl rfl,?_⟩;unfold kA;dsimp only;rw [zq2 rfl];rwa [];refine ⟨⟨_,SqL.of (s2 _ _ hpb)⟩,fun a2 ha2n bk2=>?_⟩;refine fL (bt.map fun p=>vs.getD p .non) (by rw [eZ,b9];have:=iu hg bt (bg hbt);omega) (by rw [eZ,zq4]) (SqL.of (s2 _ _ hpb)) ha2n (fun j x y hx hy H3 Q' s3 h=>?_) fun H3 s3 e3=>?_
  ·rw [bq] at hy;obtain ⟨pl,hpl,rfl⟩:=zq47.mp hy;rw [HL hpl] at hx
   cases hx
   rwa [];have hpv:=hlt pl (bg hpl);refine zAA _ _ (SqL.of (s3 _ _ (s2 _ _ (s1 _ _ ha)))) (aJ (j:=pl) (v:=vs.getD pl .non) (by rw [cn,zq5 Jlk];rfl)) (h H3 (Same.refl H3))
  have na:a2≠acc:=am ha2 ha2n |>.symm
  have s13:=s2.trans s3;have lr:=hrs.length;have e3a:=s3 _ _ ha2;have sf:Same H1 (upd H3 acc (.lst (List.map V.ref rs++[V.ref a2]))):=s13.updM hacc;have tf:TSame H3 (upd H3 acc (.lst (List.map V.ref rs++[V.ref a2]))):=TSame.updL e3a;rw [dY] at lr;refine zAJ e3a (by rw [zq4,b9];omega) sf ae (zn (rs++[a2]) (by rw [cq];rfl) ?_);have et:(aV b.ds bss).take (i+1)=(aV b.ds bss).take i++[bt.map (jz b.ds)]:=by
   have hb:(aV b.ds bss)[i]?=some (bt.map (jz b.ds)):=by unfold aV;rw [bq,hbt];rfl
   obtain ⟨h1,h2⟩:=zq7.mp hb;rw [df h1,h2]
  rw [et];refine FL.Paired.snoc ⟨s2.free ha2n,na,_,by rw [ao na];exact e3,?_⟩ (FL.Paired.imp hrs fun r0 _ l _ ⟨z1,z2,vs2,z3,z4⟩=>zAB z1 z2 (zn vs2 (by rw [ao z2];exact s3 _ _ z3) (FL.Paired.imp z4 fun _ _ _ _ z=>z.ts (s3.ts.trans tf))));refine FL.Paired.of_get (by rw [zq4,zq4]) fun j x d hx hd=>?_;rw [bq] at hx hd;obtain ⟨pl,hpl,rfl⟩:=zq47.mp hx;rw [hpl] at hd
  cases hd
  have hpv:=hlt pl (bg hpl);obtain ⟨d,hd,hdv⟩:=Paired.get hvs (i:=pl) (a:=vs.getD pl .non) (by rw [cn,zq5 Jlk];rfl);have ed:jz b.ds pl=d:=by unfold jz;rw [cn,hd];rfl
  rw [ed];exact hdv.ts ((s1.trans s13).ts.trans tf)
 ·rintro ys H2 ⟨s2,ha2,rs,rfl,hrs⟩;rw [zq4,lps,qH (by unfold aV;rw [zq4];exact zq6 _)] at hrs;have s02:=s1.trans s2;refine later ?_;simp_arith! [];have fin:∀H3,Same H2 H3->∀bs,fm us b bs->BtsV K (fun p=>H p=none) H3 acc bs->gI (A8 (di 4)) {nx:=fun x H'=>Q V.non H',rt:=Q} [some (V.ref q),some (V.ref u),some (V.ref a),some (V.ref e),some (V.ref acc)] H3:=fun H3 s3 bs hl hv=>by refine later ?_;rwa [];exact qk acc bs H3 (s02.trans s3) (s1.free hacc) hl hv
  have hv2:∀H3,Same H2 H3->BtsV K (fun p=>H p=none) H3 acc (aV b.ds bss):=fun H3 s3=>zn rs (s3 _ _ ha2) (FL.Paired.imp hrs fun r0 _ l _ ⟨z1,z2,vs2,z3,z4⟩=>⟨s1.free z1,zn vs2 (s3 _ _ z3) (FL.Paired.imp z4 fun _ _ _ _ z=>z.ts s3.ts)⟩)
  have hF:∀z,((aV b.ds bss).isEmpty || iS (aV b.ds bss) b.ed)=z->eD b bss=if z=true then aV b.ds bss++[[]] else aV b.ds bss:=fun z hz=>by unfold eD;rw [hz]
  have lrs:=hrs.length;have stay:∀H3,Same H2 H3->((aV b.ds bss).isEmpty || iS (aV b.ds bss) b.ed)=false->gI (A8 (di 4)) {nx:=fun x H'=>Q V.non H',rt:=Q} [some (V.ref q),some (V.ref u),some (V.ref a),some (V.ref e),some (V.ref acc)] H3:=fun H3 s3 hz=>fin H3 s3 _ (zn bss hg (hF _ hz).symm) (hv2 H3 s3);have grow:∀H3,Same H2 H3->((aV b.ds bss).isEmpty || iS (aV b.ds bss) b.ed)=true->tyV K "list" (V.ref acc) H3/\∀p,H3 p=none->∃xs,upd H3 p (.lst []) acc=some (.lst xs)/\xs.length<sizeLine/\
    gI (A8 (di 4)) {nx:=fun x H'=>Q V.non H',rt:=Q} [some (V.ref q),some (V.ref u),some (V.ref a),some (V.ref e),some (V.ref acc)] (upd (upd H3 p (.lst [])) acc (.lst (xs++[V.ref p]))):=fun H3 s3 hz=>by
   have e3:=s3 _ _ ha2;refine ⟨.inl ⟨rfl,_,SqL.of e3⟩,fun p hp=>?_⟩;have np:p≠acc:=(am e3 hp).symm;have t1:=Same.upd (o:=.lst []) hp;refine zAC _ (t1 _ _ e3) (by rw [zq4,b9];omega) ?_;have tf:TSame (upd H3 p (.lst [])) (upd (upd H3 p (.lst [])) acc (.lst (List.map V.ref rs++[V.ref p]))):=TSame.updL (t1 _ _ e3);refine later ?_;rwa [];refine qk acc (eD b bss) _ ((s02.trans (s3.trans t1)).updM (s1.free hacc)) (s1.free hacc) (zn bss hg rfl) ?_;rw [hF _ hz,zq2 rfl];refine zn (rs++[p]) (by rw [ae,cq];rfl) (FL.Paired.snoc ⟨s02.free (s3.free hp),[],by rw [ao np];exact ae,.nil⟩ (FL.Paired.imp hrs fun r0 _ l _ ⟨z1,z2,vs2,z3,z4⟩=>⟨s1.free z1,zn vs2 (by rw [ao z2];exact t1 _ _ (s3 _ _ z3)) (FL.Paired.imp z4 fun _ _ _ _ z=>z.ts ((s3.trans t1).ts.trans tf))⟩))
  intro p hp;have t1:=Same.upd (o:=.lst []) hp;refine zn _ (zC (t1 _ _ ha2) ae) (zn _ rfl (aU (fun hz=>?_) fun hz=>?_))
  ·rw [zq2 trivial];refine grow _ t1 ?_;have:aV b.ds bss=[]:=zq66.mp (by rw [<- lrs,<- zq4 (f:=V.ref),hz];rfl);rw [this];rfl
  have hbe:(aV b.ds bss).isEmpty=false:=by
   cases hbd:aV b.ds bss with
   |nil=>
    rw [hbd] at lrs;exact absurd (by rw [zq66.mp lrs];rfl) hz
   |cons _ _=>rfl
  rw [hbe,Au] at grow stay;have he2:=t1 _ _ (s02 _ _ he)
  cases hed:b.ed with
  |stop=>
   rw [hed] at stay grow he2;refine zAD _ _ (SqT.of he2) rfl rfl (zn _ rfl ?_);rw [zq1 Jkk];exact stay _ t1 rfl
  |go i=>
   rw [hed] at stay grow he2;refine zAD _ _ (SqT.of he2) rfl rfl (zn _ rfl ?_);rw [zq1 Jkk];exact stay _ t1 rfl
  |choose n i j=>
   rw [hed] at stay grow he2;refine zAD _ _ (SqT.of he2) rfl rfl (zn _ rfl ?_);rw [zq2 Jkk];rcases Eg rs with z | ⟨rl,pl,z⟩
   ·exact absurd (by rw [z];rfl) hz
   have hpl:rs[rl.length]?=some pl:=by rw [z,xi,gG (zq6 _),nA];rfl
   obtain ⟨l,hl,_,_,vl,hvl,hdl⟩:=Paired.get hrs hpl;have el:gU (aV b.ds bss)=l:=by unfold gU;rw [AR,Eh,<- lrs,z,xi,zq8,bV,AU,hl];rfl
   have hll:l.length<=8:=(dO (fun s hs=>AV (n6 hB.h3 hB.hp s hs)) h8 (zn bss hg rfl)).2 l (by
    unfold eD
    split
    ·exact fk _ (bg hl)
    ·exact bg hl) |>.2.1
   refine zAA _ (.ref pl) (SqL.of (t1 _ _ ha2)) (by rw [z,xi,cq];exact fA _ _) (zAA _ _ (SqT.of he2) rfl ?_);rw [zu];refine zAD vl l (SqL.of (t1 _ _ hvl)) (FL.Paired.imp hdl fun _ _ _ _ z=>z.ts t1.ts) Jlk fun H3 s3=>zn _ rfl ?_;have em:iS (aV b.ds bss) (.choose n i j)=wrB l n:=by rw [iS,el]
   rw [em] at grow stay;exact gT (fun h=>grow H3 (t1.trans s3) h) fun h=>stay H3 (t1.trans s3) h
variable {H:Hp}
theorem vF{xs:List V}:g8 xs none (some (-1))=xs.dropLast:=by
 unfold g8;rw [HT.pG,Ay,qo,List.dropLast_eq_take];have e:HT.sIx xs.length xs.length (some (-1))=xs.length-1:=by show (if (-1:Int)<0 then (-1+(xs.length:Int)).toNat else min (-1:Int).toNat xs.length)=_;rw [zq2 Jkm];omega
 rw [e]
theorem Bg{x:V}{os:List (Option V)}{ci:List Nat}{σ:L2.St}{Z Y:L2.St->Hp->Prop}(ho:os.length=1)(h:Z (aK [some x] ci σ) H):bD 1 x (aK os ci σ) H fun σ1 H1=>(∃os',os'.length=1/\σ1=aK os' ci σ)/\kA σ1 H1 fun b H2=>if b=true then Z σ1 H2 else Y σ1 H2:=by
 have e:(aK os ci σ).set 1 (some x)=aK [some x] ci σ:=by
  match os,ho with
  | [o],_=>rfl
 show (∃os',os'.length=1/\(aK os ci σ).set 1 (some x)=aK os' ci σ)/\kA ((aK os ci σ).set 1 (some x)) H _;rw [e];exact ⟨zn ([some x]) rfl rfl,by unfold kA;dsimp only;rw [if_pos rfl];exact h⟩
def nP(K:W.Frag)(C:Addr)(d:Nat)(p u:Addr)(H:Hp)(Q:VK):Prop:=∃(wd:Int)(ins oth:List Str)(ss:List Stm)(a b r:Addr)(ys:List V)(g:List Addr)(us:List Int)(ns:List Str),qL K C H p wd ins oth ss a b r ys g/\bA ss<d/\3 * aS ss<300/\cR ns wd ss/\SqT K H u (us.map V.int)/\us.length=3/\(∀x∈us,0<x/\x<=3)/\
 ∀tb xs bbs H',Same H H'->H tb=none->H' tb=some (.lst xs)->Paired (fm us) (FZ.aY ss) bbs->Paired (BlkV K (fun c=>H c=none) H' tb) xs (gE (FZ.aY ss) bbs)->Q (.ref tb) H'
def pS(K:W.Frag)(C:Addr)(d:Nat):Sp:=fun vs H Q _=>∃p u:Addr,vs=[.ref p,.ref u]/\nP K C d p u H Q
theorem Cv{C p u:Addr}{d:Nat}{Q:VK}{E:XK}:pS K C d [.ref p,.ref u] H Q E=nP K C d p u H Q:=propext ⟨by rintro ⟨_,_,e,q⟩;cases e;exact q,fun q=>zAE _ _ rfl q⟩
theorem BtsV.mv{N N':Addr->Prop}{H':Hp}{c:Addr}{bs:List (List FB.Deed)}(h:BtsV K N H c bs)(s:Same H H')(hn:∀p,N p->N' p):BtsV K N' H' c bs:=
 let ⟨ps,e,r⟩:=h;(zn ps (s _ _ e) (FL.Paired.imp r fun p _ l _ ⟨z1,vs,z2,z3⟩=>⟨hn p z1,zn vs (s _ _ z2) (FL.Paired.imp z3 fun _ _ _ _ z=>z.ts s.ts)⟩))
theorem BtsV.updL{N:Addr->Prop}{c l:Addr}{bs:List (List FB.Deed)}{us vs:List V}(h:BtsV K N H c bs)(hl:H l=some (.lst us))(hc:c≠l)(hn:∀p,N p->p≠l):BtsV K N (upd H l (.lst vs)) c bs:=
 let ⟨ps,e,r⟩:=h;(zn ps (by rw [ao hc];exact e) (FL.Paired.imp r fun p _ l _ ⟨z1,vs,z2,z3⟩=>⟨z1,zn vs (by rw [ao (hn p z1)];exact z2) (FL.Paired.imp z3 fun _ _ _ _ z=>z.ts (TSame.updL hl))⟩))
theorem Ac{N:Addr->Prop}{H:Hp}{tb q a e:Addr}{xs vs:List V}{T:List FZ.Blk}{l:List FB.Deed}{ed:FZ.Ed}(ht:H tb=some (.lst xs))(hx:Paired (BlkV K N H tb) xs T)(hq:H q=some (.tup [.ref a,.ref e]))(ha:H a=some (.lst vs))(hv:Paired (DeedV1 K H) vs l)(he:H e=some (.tup (d8 ed)))(hn:a≠tb)(hN:N a):
  Paired (BlkV K N (upd H tb (.lst (xs++[.ref q]))) tb) (xs++[.ref q]) (T++[⟨l,ed⟩]):=
 FL.Paired.snoc (BlkV.sx (b:=⟨l,ed⟩) ⟨q,a,e,vs,rfl,hq,ha,hv,he,hn,hN⟩ SameX.upd ht) (FL.Paired.imp hx fun y _ c _ h=>h.sx SameX.upd ht)
theorem vV{F:Addr->List FB.Deed->Prop}{ps:List Addr}{bs:List (List FB.Deed)}(h:Paired F ps bs)(hn:bs≠[]):∃p,atI (ps.map V.ref) (-1)=some (.ref p)/\F p (gU bs):=by
 have lr:=h.length;rcases Eg ps with z | ⟨rl,pl,z⟩
 ·rw [z] at lr;exact absurd (zq66.mp lr.symm) hn
 have hpl:ps[rl.length]?=some pl:=by rw [z,xi,gG (zq6 _),nA];rfl
 obtain ⟨l,hl,hf⟩:=Paired.get h hpl;have el:gU bs=l:=by unfold gU;rw [AR,Eh,<- lr,z,xi,zq8,bV,AU,hl];rfl
 rw [el];exact zn pl (by rw [z,xi,cq];exact fA _ _) hf
theorem oO{us:List Int}{b:FZ.Blk}{bs:List (List FB.Deed)}(h8:b.ds.length<=8)(h:fm us b bs):bs.length<=9:=by
 obtain ⟨bss,hg,rfl⟩:=h;have z:=oG hg;rw [cX] at z;have lbd:(aV b.ds bss).length=bss.length:=by unfold aV;rw [zq4]
 unfold eD
 split
 ·rw [zq8,bV];omega
 ·omega
theorem m9{bbs:List (List (List FB.Deed))}(h:∀bs∈bbs,bs.length<=9):eN bbs<=9 * bbs.length:=by
 induction bbs with
 |nil=>exact bT _
 |cons b l ih=>have h1:=ih fun c hc=>h c (b7 _ hc);have h2:=h b Jll;unfold eN at h1 ⊢;rw [cm,sO,d5];omega
theorem yz(T:Txt K mg t)(hw:t.pr=w.params)(d:Nat):FnOk P w K mg base CX0 (3 * d+16) t.f_131 t.e_131 ["program","units"] (pS K t.C_Program d):=by
 have G_111:=@wf P w K mg base t T d;have G_132:=@yo P w K mg base t T hw;have G_101:=@EY P w K mg base t T;refine T.d_131.F.ok sc_131 ∅ ?_;rintro cdv A outer s H vs Q E hr ⟨p,u,rfl,wd,ins,oth,ss,a,b,r,ys,g,us,ns,hP,hd,hm,hgd,hU,h3,hp3,qk⟩;have hu:=lE hr;refine ⟨_,
   (XSs.h
   (ai
    (aq (i:=2) sc_131.nd rfl ll (au T.d_111 G_111 hr.m (aa (yqv 0 vl) ac) gl))
   (ai
    (eC (i:=4) sc_131.nd rfl ll rfl Jkl (tns:=["block"]) (cns:=["units"]) (ci:=[1]) rfl (CompSc.of Jkl) (aN (yqv 2 vl)) (fun _=>(av (i:=1) (show List.Nodup [(".0":Str),("block":Str),("units":Str)] by decide +kernel) rfl ll (Or.inr Jkl))) (fun _=>bN) (fun _=>(au T.d_132 G_132 hr.m (aa (yqv 1 vl) (aa (yqv 2 vc) ac)) gl)))
   (ai
    (aq (i:=5) sc_131.nd rfl ll (aI ac))
   (ai
    (aq (i:=6) sc_131.nd rfl ll af)
   (bo
    (b8 PassesOwn.never rfl (aN (yqv 4 vl)) (av (i:=7) sc_131.nd rfl ll)
     (ai
      (aR (c6 PySem.F.plainAttrs_list PySem.F.slot_list_append PySem.F.type_list_append aX (yqv 5 vl) (aa (yqv 6 vl) ac)))
     (aj
      (aq (i:=6) sc_131.nd rfl ll (ay bW (yqv 6 vl) (aD aF gl T.z_len PySem.boot_len (aa (yqv 7 vl) ac)))))))
   (ai
    (aq (i:=8) sc_131.nd rfl ll (aI ac))
   (ai
    (b8 PassesOwn.never rfl (nj T.z_zip (aa (yqv 2 vl) (aa (yqv 4 vl) ac)) gl) (dG rfl (aT (av (i:=3) sc_131.nd rfl ll) (aT (av (i:=7) sc_131.nd rfl ll) cU)))
     (bo
      (b8 PassesOwn.never rfl (aN (dI ji (yqv 7 vl) ie (de (kB ii af)))) (av (i:=9) sc_131.nd rfl ll)
       (aj
        (aR (c6 PySem.F.plainAttrs_list PySem.F.slot_list_append PySem.F.type_list_append aX (yqv 8 vl) (aa (aE (aa (yqv 9 vl) (aa (aE (aa aH (aa (ay bW (aD aF gl T.z_len PySem.boot_len (aa (yqv 8 vl) ac)) af) ac))) ac))) ac)))))
     (aj
      (aR (c6 PySem.F.plainAttrs_list PySem.F.slot_list_append PySem.F.type_list_append aX (yqv 8 vl) (aa (aE (aa (ak az (yqv 7 vl) (kB ii af)) (aa (au T.d_101 G_101 hr.m (aa (ak ar (yqv 3 vl) af) (aa (yqv 5 vl) ac)) gl) ac))) ac))))))
   (aj
    (aw (yqv 8 vl))))))))))),?_⟩
 rw [show aP _ [V.ref p,V.ref u]=[some (.ref p),some (.ref u),none,none,none,none,none,none,none,none] from rfl];simp_arith! [zb];refine zBG wd ins oth ss a b r ys g (zAF hP hd Jlk fun bl bs H1 s1 hbl0 hbl hbs=>?_);have hG:=FZ.jv hgd;have lB:=FZ.gL ss;obtain ⟨B,hB⟩:∃B,B=FZ.aY ss:=⟨_,rfl⟩
 rw [<- hB] at hG lB hbs qk;have lb:=hbs.length;refine later ?_;simp_arith! [uu];refine ⟨⟨_,SqL.of hbl⟩,fun acc hacc bk=>?_⟩;have up:=n6 h3 hp3;refine cP (xs:=bs) (fun i ys H'=>Same H1 H'/\H' acc=some (.lst ys)/\∃(rs:List Addr)(bbs:List (List (List FB.Deed))),ys=rs.map V.ref/\Paired (fm us) (B.take i) bbs/\Paired (fun r bs=>H1 r=none/\r≠acc/\BtsV K (fun p=>H1 p=none/\p≠acc) H' r bs) rs bbs) (zAB (Same.upd hacc) ae (zAA ([]) ([]) rfl .nil .nil)) (fun i ys H' _ h=>SqL.of (h.1 _ _ hbl)) ?_ ?_
 ·rintro i x ys H2 os hi ho ⟨s2,ha2,rs,bbs,rfl,hL,hR⟩;obtain ⟨b0,hb0,hbv⟩:=Paired.get hbs hi;have hb8:=(hG b0 (bg hb0)).len;obtain ⟨qb,ab,eb,vs,rfl,v1,v2,v3,v4,v5,v6⟩:=hbv.same s2;refine Bg ho ?_;rwa [uu];refine zAE b0 us ⟨zAO ab eb vs v1 v2 v3 v4,hb8,(s1.trans s2).seqT hU,h3,hp3⟩ fun c bs0 H3 s3 hc hl hv=>?_;have e3:=s3 _ _ ha2;have nc:c≠acc:=(am ha2 hc).symm;have lr:=hR.length;have lL:=hL.length;rw [dY] at lL;refine zAJ e3 (by rw [zq4,b9];omega) ((s2.trans s3).updM hacc) ae (zAA (rs++[c]) (bbs++[bs0]) (by rw [cq];rfl) ?_ ?_)
  ·obtain ⟨h1,h2⟩:=zq7.mp hb0;rw [df h1,h2];exact FL.Paired.snoc hl hL
  ·refine FL.Paired.snoc ⟨s2.free hc,nc,?_⟩ (FL.Paired.imp hR fun r0 _ l _ ⟨z1,z2,z3⟩=>zAB z1 z2 ((z3.mv s3 fun _ z=>z).updL e3 z2 fun _ z=>z.2));exact (hv.mv (Same.refl _) fun p0 z=>⟨s2.free z,(am ha2 z).symm⟩).updL e3 nc fun _ z=>z.2
 ·rintro ys H2 ⟨s2,ha2,rs,bbs,rfl,hL,hR⟩;rw [qH Jlk] at hL;have lr:=hR.length;have lL:=hL.length;have hne:∀bs∈bbs,bs≠[]/\bs.length<=9:=fun bs hbs=>by obtain ⟨i,hi⟩:=zq55.mp hbs;obtain ⟨b0,hb0,hl⟩:=Paired.getR hL hi;have h8:=(hG b0 (bg hb0)).len;exact ⟨(dO (fun s hs=>AV (up s hs)) h8 hl).1,oO h8 hl⟩
  have hR2:Paired (fun r bs=>H1 r=none/\BtsV K (fun p=>H1 p=none) H2 r bs) rs bbs:=FL.Paired.imp hR fun r0 _ l _ ⟨z1,_,z3⟩=>⟨z1,z3.mv (Same.refl _) fun _ z=>z.1⟩
  have hsum:=m9 fun bs hbs=>(hne bs hbs).2;have hacc0:=hacc;clear hR hacc bk;refine later ?_;simp_arith! [];intro fl hfl;refine later ?_;simp_arith! [];refine later ?_;simp_arith! [];have t1:=Same.upd (o:=.lst []) hfl;refine ⟨fun σ H'=>Same H2 H'/\H' fl=some (.lst (nl (bM bbs)))/\∃o6 o7,σ=[some (V.ref p),some (V.ref u),some (V.ref bl),none,some (V.ref acc),some (V.ref fl),o6,o7,none,none],?_,?_⟩
  ·refine ⟨⟨_,SqL.of (t1 _ _ ha2)⟩,?_⟩;refine cr (xs:=rs.map V.ref) (fun i σ H'=>Same H2 H'/\H' fl=some (.lst (nl ((bM bbs).take i)))/\∃o7,σ=[some (V.ref p),some (V.ref u),some (V.ref bl),none,some (V.ref acc),some (V.ref fl),some (V.int (eN (bbs.take i))),o7,none,none])
    (zAB t1 ae ⟨_,rfl⟩) (fun i σ H' _ h=>SqL.of (h.1 _ _ ha2)) ?_ ?_
   ·rintro i x σ H3 hx ⟨s3,e3,o7,rfl⟩;rw [bq] at hx;obtain ⟨r0,hr0,rfl⟩:=zq47.mp hx;obtain ⟨bs0,hbs0,z1,ps,hps,hpp⟩:=Paired.get hR2 hr0;have hi:=(zq7.mp hbs0).1;have lp:=hpp.length;have lf:(bM bbs).length=bbs.length:=by unfold bM;rw [zq4,cX]
    have ltk:=eZ (ps:=(bM bbs).take i);rw [dY] at ltk;rwa [];have nr:r0≠fl:=am hps hfl;refine ⟨.inl ⟨rfl,_,SqL.of e3⟩,zAC _ e3 (by rw [ltk,b9];omega) (zAG (ps.map V.ref) (.inl (SqL.of (by rw [ao nr];exact s3 _ _ hps))) (s3.updM hfl) ?_ ⟨some (V.ref r0),?_⟩)⟩
    ·have hf:(bM bbs)[i]?=some (eN (bbs.take i)):=by unfold bM;rw [bq,xh hi];rfl
     obtain ⟨h1,h2⟩:=zq7.mp hf;rw [ae,df h1,h2];unfold nl;rw [cq];rfl
    ·rw [eO hbs0,zq4,lp,Int.natCast_add]
   ·rintro σ H3 ⟨s3,e3,o7,rfl⟩;rw [zq4,lr,qH (by unfold bM;rw [zq4,cX];exact zq6 _)] at e3;exact zAB s3 e3 (zAH _ _ rfl)
  rintro σ H3 ⟨s3,e3,o6,o7,rfl⟩;refine later ?_;simp_arith! [];intro tb htb;refine later ?_;simp_arith! [uy];have t4:=Same.upd (o:=.lst []) htb;have hS3:=s2.trans s3;have lB1:B.length=bbs.length:=lL;refine zAD bl acc rfl ⟨_,SqL.of (t4 _ _ (hS3 _ _ hbl))⟩ ⟨_,SqL.of (t4 _ _ (s3 _ _ ha2))⟩ ?_;refine rf (xs:=bs) (ys:=rs.map V.ref) (by rw [zq4];omega) (fun i σ H'=>Same H3 H'/\(∃xs,H' tb=some (.lst xs)/\Paired (BlkV K (fun c=>H c=none) H' tb) xs (iE B bbs i))/\∃o3 o7 o9,σ=[some (V.ref p),some (V.ref u),some (V.ref bl),o3,some (V.ref acc),some (V.ref fl),o6,o7,some (V.ref tb),o9])
   (zAB t4 (zn ([]) ae .nil) (zAL _ _ _ rfl)) (fun i σ H' _ h=>⟨SqL.of (h.1 _ _ (hS3 _ _ hbl)),SqL.of (h.1 _ _ (s3 _ _ ha2))⟩) ?_ ?_
  ·rintro i x y σ H5 pp hx hy hpp ⟨s5,⟨xs,e5,hxs⟩,o3,o7,o9,rfl⟩;rw [bq] at hy;obtain ⟨r0,hr0,rfl⟩:=zq47.mp hy;obtain ⟨bs0,hbs0,z1,ps,hps,hpp0⟩:=Paired.get hR2 hr0;obtain ⟨b0,hb0,hbv⟩:=Paired.get hbs hx;obtain ⟨qb,ab,eb,vs,rfl,v1,v2,v3,v4,v5,v6⟩:=hbv.same hS3;have lp:=hpp0.length;have hn0:=(hne bs0 (bg hbs0)).1;have hlen:=fJ lB1 (fun bs hbs=>(hne bs hbs).1) i (by have:=(zq7.mp hbs0).1;omega);have hsle:=jk (bbs:=bbs) (i+1);rw [eO hbs0] at hsle;simp_arith! [];refine zAC _ (SqT.of ae) rfl ?_;have t6:=Same.upd (o:=.tup [.ref qb,.ref r0]) hpp;have s6:=s5.trans t6;have e6:=t6 _ _ e5;have hx6:=FL.Paired.imp hxs fun y _ c _ h=>h.same t6;clear hxs hpp e5;generalize upd H5 pp (.tup [.ref qb,.ref r0])=H6 at t6 s6 e6 hx6 ⊢;simp_arith! [uy];refine ⟨fun σ H'=>Same H3 H'/\(∃xs,H' tb=some (.lst xs)/\Paired (BlkV K (fun c=>H c=none) H' tb) xs (iE B bbs i++bs0.dropLast.mapIdx fun j d=>⟨d,.go ((iE B bbs i).length+j+1)⟩))/\∃o9,σ=[some (V.ref p),some (V.ref u),some (V.ref bl),some (V.ref qb),some (V.ref acc),some (V.ref fl),o6,some (V.ref r0),some (V.ref tb),o9],?_,?_⟩
   ·refine zn _ (SqL.of (s6 _ _ (s3 _ _ hps))) fun sl hsl=>?_;rw [vF];have t7:=Same.upd (o:=.lst (ps.map V.ref).dropLast) hsl;have s7:=s6.trans t7;have e7:=t7 _ _ e6;have esl:upd H6 sl (.lst (ps.map V.ref).dropLast) sl=some (.lst (ps.map V.ref).dropLast):=ae;have hx7:=FL.Paired.imp hx6 fun y _ c _ h=>h.same t7;have nsl:sl≠tb:=(am e6 hsl).symm;generalize upd H6 sl (.lst (ps.map V.ref).dropLast)=H7 at t7 s7 e7 esl hx7 ⊢;refine ⟨⟨_,SqL.of esl⟩,?_⟩;refine cr (xs:=(ps.map V.ref).dropLast) (fun j σ H'=>SameX tb H7 H'/\(∃xs,H' tb=some (.lst xs)/\Paired (BlkV K (fun c=>H c=none) H' tb) xs (iE B bbs i++(bs0.dropLast.take j).mapIdx fun j d=>⟨d,.go ((iE B bbs i).length+j+1)⟩))/\∃o9,σ=[some (V.ref p),some (V.ref u),some (V.ref bl),some (V.ref qb),some (V.ref acc),some (V.ref fl),o6,some (V.ref r0),some (V.ref tb),o9])
     (zAB SameX.refl (zn _ e7 (by simpa using hx7)) ⟨_,rfl⟩) (fun j σ H' _ h=>SqL.of (h.1 _ _ esl nsl)) ?_ ?_
    ·rintro j x σ H8 hxj ⟨sx8,⟨xs8,e8,hx8⟩,o9',rfl⟩;rwa [];have hjl:j<ps.length-1:=by have:=(zq7.mp hxj).1;rwa [nv,zq4] at this
     obtain ⟨pj,hpj⟩:∃pj,ps[j]?=some pj:=⟨_,zq5 Jlk⟩
     rw [Ei,zq2 (by rw [zq4];exact hjl),bq,hpj] at hxj
     cases hxj
     obtain ⟨l,hl,hN,vl,hvl,hdl⟩:=Paired.get hpp0 hpj;have hld:bs0.dropLast[j]?=some l:=by rw [Ei,zq2 Jlk];exact hl
     have lx8:=hx8.length;rw [zq8,AS,dY,nv] at lx8;have s38:Same H3 H8:=fun c o e=>sx8 c o (s7 c o e) (am e htb);refine ⟨.inl ⟨rfl,_,SqL.of e8⟩,zn _ (.inl (SqL.of e8)) fun p1 hp1 p2 hp2=>?_⟩;have t9:=Same.upd (o:=.tup [V.str (Str.ofString "go"),V.int ((xs8.length:Int)+1)]) hp1;have t10:=Same.upd (o:=.tup [V.ref pj,V.ref p1]) hp2;have s10:=t9.trans t10;have e1:=t10 _ _ (ae (H:=H8) (a:=p1) (o:=.tup [V.str (Str.ofString "go"),V.int ((xs8.length:Int)+1)]));have s310:=s38.trans s10;refine zAW xs8 (s10 _ _ e8) (by rw [b9];omega) ((sx8.trans (SameX.of s10)).trans SameX.upd) (zn _ ae ?_) ⟨_,rfl⟩;rw [qc hld,<- kR];refine Ac (s10 _ _ e8) (FL.Paired.imp hx8 fun y _ c _ h=>h.same s10) ae (s310 _ _ (s3 _ _ hvl)) (FL.Paired.imp hdl fun _ _ _ _ z=>z.ts (s3.trans s310).ts) (e:=p1) ?_ (am (s3 _ _ hvl) htb) (s1.free hN);rw [e1,lx8,sM Jlk];rfl
    ·rintro σ H8 ⟨sx8,⟨xs8,e8,hx8⟩,o9',rfl⟩;refine zAB (fun c o e=>sx8 c o (s7 c o e) (am e htb)) (zn xs8 e8 ?_) ⟨_,rfl⟩;rw [qH (by rw [nv,nv,zq4];omega)] at hx8;exact hx8
   ·rintro σ H8 ⟨s8,⟨xs8,e8,hx8⟩,o9',rfl⟩;refine later ?_;rwa [uy];obtain ⟨pl,hat,hN,vl,hvl,hdl⟩:=vV hpp0 hn0;have lx8:=hx8.length;rw [zq8,AS,nv] at lx8;have lb0:=zq62.mpr hn0;refine ⟨.inl ⟨rfl,_,SqL.of e8⟩,zAA _ _ (SqL.of (s8 _ _ (s3 _ _ hps))) hat (zAA _ _ (SqT.of (s8 _ _ v1)) rfl ?_)⟩;rw [uy];refine zAD b0.ed (bM bbs) (s8 _ _ v4) (SqL.of (s8 _ _ e3)) (fun k hk=>?_) fun e' H9 s9 he' p1 hp1=>?_
    ·have:=(hG b0 (bg hb0)).tg k hk;unfold bM;rw [zq4,cX];omega
    have t10:=Same.upd (o:=.tup [.ref pl,.ref e']) hp1;have s10:=s9.trans t10;have s310:=s8.trans s10;refine zAW xs8 (s10 _ _ e8) (by rw [b9];omega) (s310.updM htb) (zn _ ae ?_) (zAL _ _ _ rfl);rw [fV hb0 hbs0,qM,iW,<- kR];exact Ac (s10 _ _ e8) (FL.Paired.imp hx8 fun y _ c _ h=>h.same s10) ae (s310 _ _ (s3 _ _ hvl)) (FL.Paired.imp hdl fun _ _ _ _ z=>z.ts (s3.trans s310).ts) (t10 _ _ he') (am (s3 _ _ hvl) htb) (s1.free hN)
  ·rintro σ H5 ⟨s5,⟨xs,e5,hxs⟩,o3,o7,o9,rfl⟩;refine later ?_;rwa [];rw [lb,fI lB1] at hxs;exact qk tb xs bbs H5 ((s1.trans hS3).trans s5) ((s1.trans hS3).free htb) e5 hL hxs
open FR
variable {H:Hp}
def StV(K:W.Frag)(H:Hp)(x:V)(b:FZ.Blk):Prop:=∃q a e vs,x=.ref q/\SqT K H q [.ref a,.ref e]/\H a=some (.lst vs)/\Paired (DeedV1 K H) vs b.ds/\SqT K H e (d8 b.ed)
theorem StV.same{K:W.Frag}{H':Hp}{x:V}{b:FZ.Blk}(h:StV K H x b)(s:Same H H'):StV K H' x b:=by obtain ⟨q,a,e,vs,ex,h1,h2,h3,h4⟩:=h;exact zAM q a e vs ex (s.seqT h1) (s _ _ h2) (FL.Paired.imp h3 fun y _ d _ ⟨q,e,z,f⟩=>zAC q e (s.seqT z) f) (s.seqT h4)
def TabV(K:W.Frag)(H:Hp)(tb:Addr)(F:List FZ.Blk):Prop:=∃xs,H tb=some (.lst xs)/\Paired (StV K H) xs F
theorem TabV.same{K:W.Frag}{H':Hp}{tb:Addr}{F:List FZ.Blk}(h:TabV K H tb F)(s:Same H H'):TabV K H' tb F:=by obtain ⟨xs,h1,h2⟩:=h;exact zn xs (s _ _ h1) (FL.Paired.imp h2 fun y _ d _ z=>z.same s)
theorem TabV.at{K:W.Frag}{tb:Addr}{F:List FZ.Blk}(h:TabV K H tb F){i:Nat}{b:FZ.Blk}(hb:F[i]?=some b):∃xs x,H tb=some (.lst xs)/\xs[i]?=some x/\StV K H x b:=by obtain ⟨xs,h1,h2⟩:=h;obtain ⟨x,hx,hv⟩:=Paired.getR h2 hb;exact zAA xs x h1 hx hv
section
variable {CX:CXT} {P:Program} {w:World} {K:W.Frag} {mg:Str->Option Value} {base:Heap} {N:List Str} {qual:Str} {scope:Scope} {f:Addr} {cd:Value} {A:Around} {outer:List Env} {s:Shared} {H:Hp} {E:XK}
theorem qT:(oh CX P w K mg base N qual scope f cd A outer s H E).w=w:=rfl
theorem sy{X:Cx}{E:Value->Shared->Prop}:(X.wish E).w=X.w:=rfl
theorem xE{X:Cx}{N':List Str}{scope:Scope}{b:Bk}:(X.blk N' scope b).w=X.w:=rfl
end
def rm(ks:List W.WData):List (W.WData×V):=ks.zipIdx.map fun p=>(p.1,.int (p.2:Int))
theorem tY(k:W.WData):∀(ks:List W.WData)(s:Nat),ce ((ks.zipIdx s).map fun p=>(p.1,V.int (p.2:Int))) k=if k∈ks then some (.int ((s+ks.idxOf k:Nat):Int)) else none
 | [],s=>by rw [zq1 Jll];rfl
 |x::ks,s=>by
  rw [List.zipIdx_cons,cm]
  by_cases e:x=k
  ·rw [dc (by exact e),zq2 (by rw [e];exact cN ..),e,qB,Nat.add_zero]
  ·rw [cT (by exact e),tY k ks (s+1),show (x::ks).idxOf k=ks.idxOf k+1 by rw [List.idxOf_cons,show (x==k)=false by simpa using e];rfl]
   by_cases hk:k∈ks
   ·rw [zq2 hk,zq2 (b7 _ hk),show s+1+ks.idxOf k=s+(ks.idxOf k+1) by omega]
   ·rw [zq1 hk,zq1 (fun z=>(zq11.mp z).elim (fun z=>e z.symm) hk)]
theorem jK{ks:List W.WData}{k:W.WData}:ce (rm ks) k=if k∈ks then some (.int (ks.idxOf k:Int)) else none:=by have z:=tY k ks 0;rw [AK] at z;exact z
theorem oK{ks:List W.WData}:(rm ks).length=ks.length:=by unfold rm;rw [zq4,List.length_zipIdx]
theorem vQ{ks:List W.WData}{m:W.WData}:rm (ks++[m])=rm ks++[(m,.int ks.length)]:=by unfold rm;rw [List.zipIdx_append,cq];simp
def MkV(K:W.Frag)(H:Hp)(x:V)(m:W.WData):Prop:=∃b,x=.ref b/\NkV K H m x/\GV.dpN m<=8
theorem MkV.keep{K:W.Frag}{H H':Hp}{x:V}{m:W.WData}(h:MkV K H x m)(t:TSame H H'):MkV K H' x m:=by obtain ⟨b,h1,h2,h3⟩:=h;exact zAC b h1 (h2.keep t) h3
def nlN(l:List Nat):List V:=l.map fun n:Nat=>V.int (n:Int)
def xx(K:W.Frag)(a:Addr)(H:Hp)(Q:VK):Prop:=∃(xs:List V)(ms:List W.WData),H a=some (.lst xs)/\Paired (MkV K H) xs ms/\xs.length<=10000/\∀p H',Same H H'->H p=none->H' p=some (.lst (nlN (GX.dz ms)))->Q (.ref p) H'
def zT(K:W.Frag):Sp:=fun vs H Q _=>∃a:Addr,vs=[.ref a]/\xx K a H Q
theorem D5{K:W.Frag}{a:Addr}{H:Hp}{Q:VK}{E:XK}:zT K [.ref a] H Q E=xx K a H Q:=propext ⟨by rintro ⟨_,e,q⟩;cases e;exact q,fun q=>zn _ rfl q⟩
theorem yv(T:Txt K mg t):FnOk P w K mg base CX0 1 t.f_106 t.e_106 ["marks"] (zT K):=by
 refine T.d_106.F.ok sc_106 ∅ ?_;rintro cdv A outer s H vs Q E hr ⟨a,rfl,xs,ms,ha,hA,hl,q⟩;refine ⟨_,
   (XSs.h
   (ai
    (aq (i:=1) sc_106.nd rfl lc wZ)
   (ai
    (b8 PassesOwn.never rfl (aN (yqv 0 vl)) (av (i:=2) sc_106.nd rfl ll)
     (aj
      (aR (An (jI (n:=9) Jkm hr) (yqv 1 vc) (aa (yqv 2 vl) (aa (aD vA gl T.z_len PySem.boot_len (aa (yqv 1 vc) ac)) ac))))))
   (aj
    (aw (br (tns:=["mark"]) (cns:=["numbers"]) (ci:=[1]) rfl (CompSc.of Jkl) (aN (yqv 0 vl)) (fun _=>(av (i:=1) (show List.Nodup [(".0":Str),("mark":Str),("numbers":Str)] by decide +kernel) rfl ll (Or.inr Jkl))) (fun _=>bN) (fun _=>(wX (jI (n:=9) Jkm hr) (yqv 2 vc) (yqv 1 vl) (fun _ _=>rfl))))))))),?_⟩
 rw [show aP _ [V.ref a]=[some (.ref a),none,none] from rfl];simp_arith! [uv,rY,i4,rW,qT,sy,xE];intro d hd;refine later ?_;simp_arith! [uv,rY,i4,rW,qT,sy,xE];have la:=hA.length;refine ⟨⟨_,SqL.of (Same.upd hd _ _ ha)⟩,cr (xs:=xs) (fun i σ H'=>(Same H H'/\DnAt w.params K H' d (rm (GX.ksF (ms.take i))))/\∃o2,σ=[some (.ref a),some (.ref d),o2]) ⟨⟨Same.upd hd,DnAt.new⟩,_,rfl⟩ ?_ ?_ ?_⟩
 ·rintro i σ H' _ ⟨⟨sm,_⟩,_⟩;exact SqL.of (sm _ _ ha)
 ·rintro i x σ H1 hxi ⟨⟨sm,hD⟩,o2,rfl⟩;obtain ⟨m,hm,b,rfl,hk,h8⟩:=L2.Paired.get hA hxi;have hi:=(zq7.mp hm).1;have he:ms[i]=m:=(zq7.mp hm).2;have hks:=(GX.fP (ms.take i)).2.2;rw [dY] at hks;simp_arith! [rY,rW];refine ⟨⟨_,hD⟩,zn _ hD (zAY b _ m _ rfl hD (hk.keep sm.ts) h8 (by rw [oK,b9];omega) (fun y hy=>?_) fun hn o hD2=>?_)⟩
  ·rw [jK] at hy
   split at hy
   ·rename_i hin
    refine ⟨⟨sm,?_⟩,_,rfl⟩;rw [df hi,he,GX.cg,zq2 hin];exact hD
   ·cases hy
  ·rw [jK] at hn
   split at hn
   ·cases hn
   ·rename_i hin
    refine ⟨⟨sm.updM hd,?_⟩,_,rfl⟩;rw [df hi,he,GX.cg,zq1 hin,vQ];rw [oK] at hD2;exact hD2
 ·rintro σ H1 ⟨⟨sm,hD⟩,o2,rfl⟩;rw [la,ef] at hD;refine later ?_;simp_arith! [i4];refine later ?_;simp_arith! [i4,qT,sy,xE];refine ⟨⟨_,SqL.of (sm _ _ ha)⟩,fun acc hacc bk=>?_⟩;refine fL (nlN (GX.dz ms)) (by rw [b9];omega) (by rw [nlN,zq4,GX.dR,la]) (SqL.of (sm _ _ ha)) hacc (fun i x y hx hy H2 Q' s2 hQ=>?_) (fun H2 s2 he=>?_)
  ·obtain ⟨m,hm,b,rfl,hk,h8⟩:=L2.Paired.get hA hx;simp_arith! [i4];have sA:=sm.trans s2;unfold nlN at hy;rw [bq,GX.gY hm] at hy
   cases hy
   refine zAX d b _ m _ (zBF rfl rfl (hD.same s2) (hk.keep sA.ts) h8 ?_ (hQ _ (Same.refl _)));rw [jK,zq2 (GX.mem_ksF.mpr (bg hm))]
  ·exact q acc H2 (sm.trans s2) (sm.free hacc) he
def xw(K:W.Frag)(e:Addr)(H:Hp)(Q:VK):Prop:=∃(ed:FZ.Ed),SqT K H e (d8 ed)/\∀p H',Same H H'->NkV K H' (GY.dm ed) (.ref p)->Q (.ref p) H'
def zR(K:W.Frag):Sp:=fun vs H Q _=>∃e:Addr,vs=[.ref e]/\xw K e H Q
theorem D4{K:W.Frag}{e:Addr}{H:Hp}{Q:VK}{E:XK}:zR K [.ref e] H Q E=xw K e H Q:=propext ⟨by rintro ⟨_,e,q⟩;cases e;exact q,fun q=>zn _ rfl q⟩
def xy(K:W.Frag)(e:Addr)(H:Hp)(Q:VK):Prop:=∃(ed:FZ.Ed),SqT K H e (d8 ed)/\∀p H',Same H H'->H p=none->H' p=some (.lst (nlN ed.tg))->Q (.ref p) H'
def sg(K:W.Frag):Sp:=fun vs H Q _=>∃e:Addr,vs=[.ref e]/\xy K e H Q
theorem bK{K:W.Frag}{e:Addr}{H:Hp}{Q:VK}{E:XK}:sg K [.ref e] H Q E=xy K e H Q:=propext ⟨by rintro ⟨_,e,q⟩;cases e;exact q,fun q=>zn _ rfl q⟩
theorem F0(T:Txt K mg t):FnOk P w K mg base CX0 1 t.f_104 t.e_104 ["ending"] (zR K):=by
 refine T.d_104.F.ok Gu ∅ ?_;rintro cdv A outer s H vs Q E hr ⟨e,rfl,ed,he,q⟩;refine ⟨_,
   (XSs.h
   (aj
    (aw (fY (ap bu (ak ar (yqv 0 vl) af) aH (aA _)) (aE (aa (ak ar (yqv 0 vl) af) (aa (ak ar (yqv 0 vl) af) ac))) (aE (aa (ak ar (yqv 0 vl) af) (aa dF ac))))))),?_⟩
 rw [show aP _ [V.ref e]=[some (.ref e)] from rfl];rwa []
 cases ed with
 |stop=>
  refine zAD _ _ he rfl rfl (zn _ rfl ?_);rw [zq1 Jkk];exact zAA _ _ he rfl fun p hp=>q p _ (Same.upd hp) (.tup (SqT.of ae) (.cons .str (.cons .non .nil)))
 |go i=>
  refine zAD _ _ he rfl rfl (zn _ rfl ?_);rw [zq1 Jkk];exact zAA _ _ he rfl fun p hp=>q p _ (Same.upd hp) (.tup (SqT.of ae) (.cons .str (.cons .non .nil)))
 |choose n i j=>refine zAD _ _ he rfl rfl (zn _ rfl ?_);rw [zq2 Jkk];exact zAA _ _ he rfl (zAA _ _ he rfl fun p hp=>q p _ (Same.upd hp) (.tup (SqT.of ae) (.cons .str (.cons .str .nil))))
theorem yy(T:Txt K mg t):FnOk P w K mg base CX0 1 t.f_100 t.e_100 ["ending"] (sg K):=by
 refine T.d_100.F.ok Gs ∅ ?_;rintro cdv A outer s H vs Q E hr ⟨e,rfl,ed,he,q⟩;refine ⟨_,
   (XSs.h
   (ai
    (aL (ap bu (ak ar (yqv 0 vl) af) aH (aA _))
     (aj
      (aw (aI (aa (ak ar (yqv 0 vl) af) ac))))
     aC)
   (ai
    (aL (ap bu (ak ar (yqv 0 vl) af) aH (aA _))
     (aj
      (aw (aI (aa (ak ar (yqv 0 vl) af) (aa (ak ar (yqv 0 vl) af) ac)))))
     aC)
   (aj
    (aw (aI ac)))))),?_⟩
 rw [show aP _ [V.ref e]=[some (.ref e)] from rfl];rwa []
 cases ed with
 |stop=>
  refine zAD _ _ he rfl rfl (zn _ rfl ?_);rw [zq1 Jkk];refine zAD _ _ he rfl rfl (zn _ rfl ?_);rw [zq1 Jkk];exact fun p hp=>q p _ (Same.upd hp) hp ae
 |go i=>
  refine zAD _ _ he rfl rfl (zn _ rfl ?_);rw [zq2 Jkk];exact zAA _ _ he rfl fun p hp=>q p _ (Same.upd hp) hp ae
 |choose n i j=>refine zAD _ _ he rfl rfl (zn _ rfl ?_);rw [zq1 Jkk];refine zAD _ _ he rfl rfl (zn _ rfl ?_);rw [zq2 Jkk];exact zAA _ _ he rfl (zAA _ _ he rfl fun p hp=>q p _ (Same.upd hp) hp ae)
def xA(K:W.Frag)(tb c:Addr)(H:Hp)(Q:VK):Prop:=∃(F:List FZ.Blk)(cs:List Nat),TabV K H tb F/\H c=some (.lst (nlN cs))/\cs.length=F.length/\GY.Led F/\F.length<=5000/\∀p H',Same H H'->H p=none->H' p=some (.lst (nlN (GY.nxt F cs)))->Q (.ref p) H'
def zV(K:W.Frag):Sp:=fun vs H Q _=>∃tb c:Addr,vs=[.ref tb,.ref c]/\xA K tb c H Q
theorem uB{K:W.Frag}{tb c:Addr}{H:Hp}{Q:VK}{E:XK}:zV K [.ref tb,.ref c] H Q E=xA K tb c H Q:=propext ⟨by rintro ⟨_,_,e,q⟩;cases e;exact q,fun q=>zAE _ _ rfl q⟩
theorem cc{l:List Nat}{i n:Nat}(h:l[i]?=some n):(nlN l)[i]?=some (.int (n:Int)):=by unfold nlN;rw [bq,h];rfl
theorem aO{l:List Nat}:(nlN l).length=l.length:=by unfold nlN;rw [zq4]
theorem xN{α:Type}{f:α->W.WData}{n:Nat}(h:∀x,GV.dpN (f x)<=n):∀l:List α,GV.ip (l.map f)<=n
 | []=>by rw [B0,GV.ip];exact bT _
 |x::l=>by rw [cm,GV.ip];have:=h x;have:=xN h l;omega
theorem sk(e:FZ.Ed):e.tg.length<=2:=by cases e<;>simp [FZ.Ed.tg]
theorem F1(T:Txt K mg t):FnOk P w K mg base CX0 2 t.f_105 t.e_105 ["table","classes"] (zV K):=by
 have G_106:=@yv P w K mg base t T;have G_100:=@yy P w K mg base t T;refine T.d_105.F.ok sc_105 ∅ (fun cdv A outer s H vs Q E hr h=>?_);obtain ⟨tb,c,rfl,F,cs,⟨xs,hT,hF⟩,hc,hl,hL,h5,q⟩:=h;refine ⟨_,
   (XSs.h
   (ai
    (aq (i:=2) sc_105.nd rfl ll (aI ac))
   (ai
    (b8 PassesOwn.never rfl (nj T.z_zip (aa (yqv 0 vl) (aa (yqv 1 vc) ac)) gl) (dG rfl (aT (av (i:=3) sc_105.nd rfl ll) (aT (av (i:=4) sc_105.nd rfl ll) cU)))
     (aj
      (aR (c6 PySem.F.plainAttrs_list PySem.F.slot_list_append PySem.F.type_list_append aX (yqv 2 vl) (aa (aE (aa (yqv 4 vl) (aa (bL eE gl T.z_tuple boot_tuple (aa (br (tns:=["place"]) (cns:=["classes"]) (ci:=[1]) rfl (CompSc.of Jkl) (aN (au T.d_100 G_100 hr.m (aa (ak ar (yqv 3 vl) af) ac) gl)) (fun _=>(av (i:=1) (show List.Nodup [(".0":Str),("place":Str),("classes":Str)] by decide +kernel) rfl ll (Or.inr Jkl))) (fun _=>bN) (fun _=>(ak az (yqv 2 vc) (yqv 1 vl)))) ac)) ac))) ac)))))
   (aj
    (aw (au T.d_106 G_106 hr.m (aa (yqv 2 vl) ac) gl)))))),?_⟩
 rw [show aP _ [V.ref tb,V.ref c]=[some (.ref tb),some (.ref c),none,none,none] from rfl];simp_arith! [];intro l hl0;refine later ?_;simp_arith! [];have lF:=hF.length;have s0:=Same.upd (o:=.lst []) hl0;refine zAD tb c rfl ⟨_,SqL.of (s0 _ _ hT)⟩ ⟨_,SqL.of (s0 _ _ hc)⟩ ?_;refine rf (xs:=xs) (ys:=nlN cs) (by rw [aO];omega) (fun i σ H'=>(Same H H'/\∃ys,H' l=some (.lst ys)/\ys.length=i/\Paired (MkV K H') ys ((List.zipWith (GY.mk1 cs) F cs).take i))/\∃o3 o4,σ=[some (.ref tb),some (.ref c),some (.ref l),o3,o4]) ⟨⟨s0,zAC ([]) ae rfl .nil⟩,zAH _ _ rfl⟩ ?_ ?_ ?_
 ·rintro i σ H' _ ⟨⟨sm,_⟩,_⟩;exact ⟨SqL.of (sm _ _ hT),SqL.of (sm _ _ hc)⟩
 ·rintro i x y σ H1 pp hx hy hpp ⟨⟨sm,ys,hyl,ly,hp⟩,o3,o4,rfl⟩;obtain ⟨b,hb,q0,a0,e0,vs,rfl,hq,ha0,hds,he⟩:=L2.Paired.get hF hx;obtain ⟨own,ho,zo⟩:=GY.fg hl hb;rw [cc ho] at hy
  cases hy
  have hi:=(zq7.mp hx).1;have s1:=sm.trans (Same.upd (o:=.tup [V.ref q0,V.int own]) hpp);have hyl1:=Same.upd (o:=.tup [V.ref q0,V.int own]) hpp _ _ hyl;have hp1:=FL.Paired.imp hp fun y _ m _ z=>z.keep (Same.upd (o:=.tup [V.ref q0,V.int own]) hpp).ts;simp_arith! [bK];refine zAC _ (SqT.of ae) rfl ?_;generalize upd H1 pp (.tup [V.ref q0,V.int own])=H2 at s1 hyl1 hp1 ⊢;simp_arith! [bK];refine ⟨.inl ⟨rfl,_,SqL.of hyl1⟩,zAA _ _ (s1.seqT hq) rfl ?_⟩;rw [bK];refine zn b.ed (s1.seqT he) fun p2 H3 s3 hp2 he2=>?_;refine zAC p2 rfl ⟨_,SqL.of he2⟩ fun acc hacc bk=>?_;have s13:=s1.trans s3;have hbF:=bg hb;refine fL (nlN (b.ed.tg.map fun i=>cs.getD i 0)) (by rw [aO,b9];have:=sk b.ed;omega) (by rw [aO,aO,zq4]) (SqL.of he2) hacc (fun j z u hz hu H4 Q' s4 hQ=>?_) (fun H4 s4 he4=>?_)
  ·have hj:j<b.ed.tg.length:=by have:=(zq7.mp hz).1;rw [aO] at this;exact this
   have ej:b.ed.tg[j]?=some b.ed.tg[j]:=zq5 hj;rw [cc ej] at hz
   cases hz
   rw [cc (by rw [bq,ej];rfl)] at hu
   cases hu
   have hlt:=hL b hbF _ (dH hj);simp_arith! [];refine zAA _ _ (SqL.of (s4 _ _ (s13 _ _ hc))) (aJ (cc (zq5 (show b.ed.tg[j]<cs.length by omega)))) ?_;have z:=hQ _ (Same.refl _);dsimp only at z;rw [cn,zq5 (show b.ed.tg[j]<cs.length by omega)] at z;exact z
  ·refine ⟨_,.inl ⟨SqL.of he4,fun l1 hl1 p5 hp5=>?_⟩⟩;have t1:=Same.upd (o:=.tup (nlN (b.ed.tg.map fun i=>cs.getD i 0))) hl1;have t2:=Same.upd (o:=.tup [V.int own,V.ref l1]) hp5;have s4':=s3.trans s4;have t12:=(s4'.trans t1).trans t2;have hlx:=t12 _ _ hyl1;refine zAG _ hlx (by rw [b9];omega) ⟨(s1.trans t12).updM hl0,zAC (ys++[V.ref p5]) ae (by rw [zq8,bV,ly]) ?_⟩ (zAH _ _ rfl);have hzl:i<(List.zipWith (GY.mk1 cs) F cs).length:=by rw [GY.kH hl];omega
   have hze:(List.zipWith (GY.mk1 cs) F cs)[i]=GY.mk1 cs b own:=(zq7.mp zo).2;rw [df hzl,hze];have tu:TSame (upd (upd H4 l1 (.tup (nlN (b.ed.tg.map fun i=>cs.getD i 0)))) p5 (.tup [V.int own,V.ref l1])) (upd (upd (upd H4 l1 (.tup (nlN (b.ed.tg.map fun i=>cs.getD i 0)))) p5 (.tup [V.int own,V.ref l1])) l (.lst (ys++[V.ref p5]))):=TSame.updL hlx;refine FL.Paired.snoc ⟨p5,rfl,?_,?_⟩ (FL.Paired.imp hp1 fun y _ m _ z=>(z.keep t12.ts).keep tu)
   ·refine (NkV.tup (SqT.of ae) (.cons .int (.cons (.tup (SqT.of (t2 _ _ ae)) ?_) .nil))).keep tu;unfold nlN;rw [eG];exact NksV.of fun j _=>.int
   ·unfold GY.mk1;simp only [GV.dpN,GV.ip];have:=xN (f:=fun i=>W.WData.int ((cs.getD i 0:Nat):Int)) (n:=0) (fun x=>by simp [GV.dpN]) b.ed.tg;omega
 ·rintro σ H1 ⟨⟨sm,ys,hy,ly,hp⟩,o3,o4,rfl⟩;dsimp only;refine later ?_;simp_arith! [D5];rw [lF,<- hl,<- GY.kH hl,ef] at hp;refine zAD ys _ hy hp Jlk fun p H2 s2 hp2 he=>q p H2 (sm.trans s2) (sm.free hp2) he
variable {H:Hp}
def xr(K:W.Frag)(tb:Addr)(H:Hp)(Q:VK):Prop:=∃(F:List FZ.Blk),TabV K H tb F/\GY.Led F/\F.length<=5000/\(∀b∈F,b.ds.length<=1000)/\∀p cs H',Same H H'->H p=none->H' p=some (.lst (nlN cs))->GY.Prt F cs->GY.nxt F cs=cs->Q (.ref p) H'
def zM(K:W.Frag):Sp:=fun vs H Q _=>∃tb:Addr,vs=[.ref tb]/\xr K tb H Q
theorem Ie{K:W.Frag}{tb:Addr}{Q:VK}{E:XK}:zM K [.ref tb] H Q E=xr K tb H Q:=propext ⟨by rintro ⟨_,e,q⟩;cases e;exact q,fun q=>zn _ rfl q⟩
theorem mL{K:W.Frag}(o:Opd):NkV K H (GY.vW o.v) o.v:=by
 cases o with
 |box n=>exact .str
 |word i=>exact .int
theorem BJ{K:W.Frag}(d:FB.Deed):NksV K H (d.vs.map GY.vW) d.vs:=by
 cases d with
 |tell o=>exact .cons .str (.cons (mL o) .nil)
 |copy n o=>exact .cons .str (.cons .str (.cons (mL o) .nil))
 |op k n o p=>exact .cons .str (.cons .str (.cons (mL o) (.cons (mL p) .nil)))
theorem oX{K:W.Frag}{H:Hp}:∀{vs:List V} {ds:List FB.Deed},Paired (DeedV1 K H) vs ds->NksV K H (ds.map GY.kM) vs
 |_,_,.nil=>.nil
 |_,_,.cons ⟨q,e,h,_⟩ t=>by subst e;exact .cons (.tup h (BJ _)) (oX t)
theorem EB(o:Opd):GV.dpN (GY.vW o.v)=0:=by cases o<;>simp [GY.vW,Opd.v,GV.dpN]
theorem Bp(d:FB.Deed):GV.dpN (GY.kM d)<=1:=by
 unfold GY.kM;rw [GV.dpN]
 cases d<;>simp [FB.Deed.vs,GV.ip,EB]<;>simp [GY.vW,GV.dpN]
theorem Bq(e:FZ.Ed):GV.dpN (GY.dm e)<=1:=by cases e<;>simp [GY.dm,GV.dpN,GV.ip]
theorem EA(b:FZ.Blk):GV.dpN (GY.mk0 b)<=8:=by unfold GY.mk0;have h1:=xN (f:=GY.kM) (n:=1) Bp b.ds;have h2:=Bq b.ed;simp only [GV.dpN,GV.ip];omega
def HK:V->Nat
 | .int i=>i.toNat
 |_=>0
def HI:Option HO->List Nat
 |some (.lst vs)=>vs.map HK
 |_=>[]
def adV:Option (Option V)->Option Addr
 |some (some (.ref p))=>some p
 |_=>none
def muA(σ:L2.St)(H:Hp):Nat:=GX.dS (HI ((adV σ[1]?).bind H))
theorem yg{x y:Option V}{p:Addr}{c:List Nat}(h:H p=some (.lst (nlN c))):muA [x,some (.ref p),y] H=GX.dS c:=by show GX.dS (HI (H p))=_;rw [h];show GX.dS ((nlN c).map HK)=_;unfold nlN;rw [eG];congr 1;exact (qC (g:=id) fun n _=>rfl).trans (List.map_id c)
theorem EU(T:Txt K mg t):FnOk P w K mg base CX0 3 t.f_103 t.e_103 ["table"] (zM K):=by
 have G_106:=@yv P w K mg base t T;have G_104:=@F0 P w K mg base t T;have G_105:=@F1 P w K mg base t T;refine T.d_103.F.ok sc_103 ∅ ?_;rintro cdv A outer s H vs Q E hr ⟨tb,rfl,F,hTV,hL,h5,hds,q⟩;refine ⟨_,
   (XSs.h
   (ai
    (aq (i:=1) sc_103.nd rfl ll (au T.d_106 G_106 hr.m (aa (br (tns:=["state"]) (cns:=[]) (ci:=[]) rfl (CompSc.of Jkl) (aN (yqv 0 vl)) (fun _=>(av (i:=1) (show List.Nodup [(".0":Str),("state":Str)] by decide +kernel) rfl ll (Or.inr Jkl))) (fun _=>bN) (fun _=>(aE (aa (bL eE gl T.z_tuple boot_tuple (aa (ak ar (yqv 1 vl) af) ac)) (aa (au T.d_104 G_104 hr.m (aa (ak ar (yqv 1 vl) af) ac) gl) ac))))) ac) gl))
   (ai
    (aq (i:=2) sc_103.nd rfl ll (au T.d_105 G_105 hr.m (aa (yqv 0 vl) (aa (yqv 1 vl) ac)) gl))
   (ai
    (dJ PassesOwn.never (ap (mP (n:=0) (jI Jkm hr)) (yqv 2 vl) (yqv 1 vl) (aA _))
     (ai
      (aq (i:=1) sc_103.nd rfl ll (yqv 2 vl))
     (aj
      (aq (i:=2) sc_103.nd rfl ll (au T.d_105 G_105 hr.m (aa (yqv 0 vl) (aa (yqv 1 vl) ac)) gl)))))
   (aj
    (aw (yqv 1 vl))))))),?_⟩
 rw [show aP _ [V.ref tb]=[some (.ref tb),none,none] from rfl];simp_arith! [D5];obtain ⟨xs,hT,hF⟩:=id hTV;have lF:=hF.length;refine ⟨⟨_,SqL.of hT⟩,fun acc hacc bk=>?_⟩;refine cP (xs:=xs) (fun i ys H'=>Same H H'/\H' acc=some (.lst ys)/\ys.length=i/\Paired (MkV K H') ys ((F.map GY.mk0).take i)) ?_ ?_ ?_ ?_
 ·exact zAF (Same.upd hacc) ae rfl .nil
 ·intro i ys H' _ h;exact SqL.of (h.1 _ _ hT)
 ·rintro i x ys H1 os hxi ho ⟨sm,hacc1,ly,hA⟩
  match os,ho with
  | [o],_=>
   obtain ⟨b,hb,q0,a0,e0,vs,rfl,hq,ha0,hdv,he⟩:=L2.Paired.get hF hxi;have hi:=(zq7.mp hb).1;rwa [D4];refine ⟨zn ([some (.ref q0)]) rfl rfl,?_⟩;rw [zq2 trivial];refine zAA _ _ (sm.seqT hq) rfl ?_;have hdv1:NksV K H1 (b.ds.map GY.kM) vs:=(oX hdv).keep sm.ts;refine zAE a0 vs rfl (.inl ⟨SqL.of (sm _ _ ha0),fun l hl=>?_⟩);have t1:=Same.upd (o:=.tup vs) hl;refine zAA _ _ ((sm.trans t1).seqT hq) rfl ?_;rw [D4];refine zn b.ed ((sm.trans t1).seqT he) fun p2 H3 s3 hk2 p3 hp3=>?_;have t3:=Same.upd (o:=.tup [V.ref l,V.ref p2]) hp3;have t123:=(t1.trans s3).trans t3;have hac:=t123 _ _ hacc1;have tu:TSame (upd H3 p3 (.tup [V.ref l,V.ref p2])) (upd (upd H3 p3 (.tup [V.ref l,V.ref p2])) acc (.lst (ys++[V.ref p3]))):=TSame.updL hac;refine zAV hac (by rw [b9];omega) ((sm.trans t123).updM hacc) ae (by rw [zq8,bV,ly]) ?_;have hzl:i<(F.map GY.mk0).length:=by rw [zq4];exact hi
   have hze:(F.map GY.mk0)[i]=GY.mk0 b:=by rw [List.getElem_map,(zq7.mp hb).2]
   rw [df hzl,hze];refine FL.Paired.snoc ⟨p3,rfl,?_,EA b⟩ (FL.Paired.imp hA fun y _ m _ z=>(z.keep t123.ts).keep tu);exact (NkV.tup (SqT.of ae) (.cons (.tup (SqT.of (t3 _ _ (s3 _ _ ae))) (hdv1.keep t123.ts)) (.cons (hk2.keep t3.ts) .nil))).keep tu
 rintro ys H1 ⟨sm,hacc1,ly,hA⟩;rw [lF,<- zq4 (f:=GY.mk0),ef] at hA;refine zAD ys _ hacc1 hA Jlk fun p1 H2 s2 hp1 he1=>later ?_;have s12:=sm.trans s2;simp_arith! [uB];refine zAZ F (GY.cl0 F) (hTV.same s12) he1 GY.cls0.len hL h5 fun p2 H3 s3 hp2 he2=>later ?_;simp_arith! [uB];refine eQ (fun σ H'=>Same H H'/\∃p c p',H p=none/\H' p=some (.lst (nlN c))/\GY.Prt F c/\H p'=none/\H' p'=some (.lst (nlN (GY.nxt F c)))/\σ=[some (.ref tb),some (.ref p),some (.ref p')]) muA ⟨s12.trans s3,zBA p1 _ p2 (sm.free hp1) (s3 _ _ he1) GY.cls0 (s12.free hp2) he2 rfl⟩ ?_;rintro σ H4 ⟨s4,p,c,p',hp,hpe,hP,hp',hpe',rfl⟩;simp_arith! [uB];have z:=FL.uD (K:=K) (H:=H4) (n:=0) (a:=p') (b:=p) (xs:=(GY.nxt F c).map fun n:Nat=>(n:Int)) (ys:=c.map fun n:Nat=>(n:Int)) (SqL.of (by rw [hpe',eG];rfl)) (SqL.of (by rw [hpe,eG];rfl));refine zn _ z (zn _ rfl ?_)
 by_cases e:GY.nxt F c=c
 ·rw [bC (by rw [e]),zq1 Jkm];refine later ?_;simp_arith! [];exact q p c H4 s4 hp hpe hP e
 ·have ne:¬(GY.nxt F c).map (fun n:Nat=>(n:Int))=c.map fun n:Nat=>(n:Int):=fun z=>e (GY.jc (fun x y e=>Int.ofNat.inj e) z);rw [bh ne,zq2 Jkm];have hm:muA [some (.ref tb),some (.ref p),some (.ref p')] H4=GX.dS c:=yg hpe;refine zn (fun σ' H'=>(Same H H'/\∃p c p',H p=none/\H' p=some (.lst (nlN c))/\GY.Prt F c/\H p'=none/\H' p'=some (.lst (nlN (GY.nxt F c)))/\σ'=[some (.ref tb),some (.ref p),some (.ref p')])/\muA σ' H'<GX.dS c) (fun σ' H' h=>zAC _ (by rw [hm];exact h.2) rfl h.1) (later ?_);simp_arith! [uB];have hP2:=GY.Jp hP hL;refine zAZ F (GY.nxt F c) (hTV.same s4) hpe' hP2.len hL h5 fun p6 H6 s6 hp6 he6=>⟨⟨s4.trans s6,zBA p' _ p6 hp' (s6 _ _ hpe') hP2 (s4.free hp6) he6 rfl⟩,?_⟩;rw [yg (s6 _ _ hpe')];exact GY.yn hP e
variable {a i:Nat}
inductive Rch (F:List FZ.Blk):Nat->Prop where
 |zero:Rch F 0
 |step {i j:Nat} {b:FZ.Blk}:Rch F i->F[i]?=some b->j∈b.ed.tg->Rch F j
def blV(l:List Bool):List V:=l.map V.bl
theorem xC{l:List Bool}{b:Bool}(h:l[i]?=some b):(blV l)[i]?=some (.bl b):=by unfold blV;rw [bq,h];rfl
theorem Be{l:List Bool}:(blV l).length=l.length:=by unfold blV;rw [zq4]
def xv(K:W.Frag)(tb:Addr)(H:Hp)(Q:VK):Prop:=∃(F:List FZ.Blk),TabV K H tb F/\GY.Led F/\0<F.length/\F.length<=5000/\∀p ws H',Same H H'->H p=none->H' p=some (.lst (blV ws))->ws.length=F.length->(∀i,ws[i]?=some true↔Rch F i)->Q (.ref p) H'
def zQ(K:W.Frag):Sp:=fun vs H Q _=>∃tb:Addr,vs=[.ref tb]/\xv K tb H Q
theorem II{K:W.Frag}{tb:Addr}{H:Hp}{Q:VK}{E:XK}:zQ K [.ref tb] H Q E=xv K tb H Q:=propext ⟨by rintro ⟨_,e,q⟩;cases e;exact q,fun q=>zn _ rfl q⟩
def HJ:Option HO->List V
 |some (.lst vs)=>vs
 |_=>[]
def muL(wa ah:Addr)(H:Hp):Nat:=3 * (HJ (H wa)).countP (fun v=>decide (v=V.bl false))+(HJ (H ah)).length
theorem rD{H:Hp}{wa ah:Addr}{ws:List Bool}{vs:List V}(h1:H wa=some (.lst (blV ws)))(h2:H ah=some (.lst vs)):muL wa ah H=3 * ws.countP (fun b=>! b)+vs.length:=by
 unfold muL;rw [h1,h2];show 3 * (blV ws).countP _+vs.length=_;unfold blV;rw [AM];congr 2;refine List.countP_congr fun b _=>?_
 cases b<;>simp
theorem Bl{ws:List Bool}(h:ws[i]?=some false):(ws.set i true).countP (fun b=>! b)+1=ws.countP (fun b=>! b):=by
 induction ws generalizing i with
 |nil=>simp at h
 |cons b ws ih=>
  cases i with
  |zero=>
   simp at h;subst h;simp [List.countP_cons]
  |succ i=>have:=ih (i:=i) (by simpa using h);rw [List.set_cons_succ,xb,xb];omega
structure Wlk(F:List FZ.Blk)(ws:List Bool)(as:List Nat):Prop where
 len:ws.length=F.length
 rch:∀a∈as,Rch F a/\a<F.length
 tru:∀i,ws[i]?=some true->Rch F i
 nil:ws[0]?=some true\/0∈as
 cl:∀(i:Nat)(b:FZ.Blk),ws[i]?=some true->F[i]?=some b->∀j∈b.ed.tg,ws[j]?=some true\/j∈as
theorem Wlk.over{F:List FZ.Blk}{ws:List Bool}(h:Wlk F ws [])(hL:GY.Led F):∀i,ws[i]?=some true↔Rch F i:=fun i=>⟨h.tru i,fun r=>by
 induction r with
 |zero=>exact h.nil.elim id fun z=>by cases z
 |step _ hb hj ih=>exact (h.cl _ _ ih hb _ hj).elim id fun z=>by cases z⟩
theorem jh{ws:List Bool}(ha:a<ws.length):(ws.set a true)[i]?=some true↔i=a\/ws[i]?=some true:=by
 rw [List.getElem?_set]
 by_cases e:a=i
 ·rw [zq2 e,zq2 Jlk];exact ⟨fun _=>.inl e.symm,fun _=>rfl⟩
 ·rw [zq1 e];exact ⟨.inr,fun z=>z.elim (fun z=>absurd z.symm e) id⟩
theorem Wlk.skip{F:List FZ.Blk}{ws:List Bool}{as:List Nat}(h:Wlk F ws (as++[a]))(ha:ws[a]?=some true):Wlk F ws as where
 len:=h.len
 rch:=fun x hx=>h.rch x (fk _ hx)
 tru:=h.tru
 nil:=h.nil.elim .inl fun z=>(zq20.mp z).elim .inr fun z=>.inl (by rw [zq9.mp z];exact ha)
 cl:=fun i b hi hb j hj=>(h.cl i b hi hb j hj).elim .inl fun z=>(zq20.mp z).elim .inr fun z=>.inl (by rw [zq9.mp z];exact ha)
theorem Wlk.take{F:List FZ.Blk}{ws:List Bool}{as:List Nat}{b:FZ.Blk}(h:Wlk F ws (as++[a]))(hL:GY.Led F)(hb:F[a]?=some b):Wlk F (ws.set a true) (as++b.ed.tg):=by
 have ha:=h.rch a (cW _ (zq9.mpr rfl));have hw:a<ws.length:=by rw [h.len];exact ha.2
 have mv:∀j,ws[j]?=some true\/j∈as++[a]->(ws.set a true)[j]?=some true\/j∈as++b.ed.tg:=fun j hj=>by
  rcases hj with z | z
  ·exact .inl ((jh hw).mpr (.inr z))
  rcases zq20.mp z with z | z
  ·exact .inr (fk _ z)
  ·exact .inl ((jh hw).mpr (.inl (zq9.mp z)))
 refine ⟨by rw [sJ];exact h.len,fun x hx=>?_,fun i hi=>?_,mv 0 h.nil,fun i c hi hc j hj=>?_⟩
 ·rcases zq20.mp hx with z | z
  ·exact h.rch x (fk _ z)
  ·exact ⟨.step ha.1 hb z,hL b (bg hb) x z⟩
 ·rcases (jh hw).mp hi with z | z
  ·rw [z];exact ha.1
  ·exact h.tru i z
 ·rcases (jh hw).mp hi with z | z
  ·rw [z,hb] at hc
   cases hc
   exact .inr (cW _ hj)
  ·exact mv j (h.cl i c z hc j hj)
theorem EZ(T:Txt K mg t):FnOk P w K mg base CX0 2 t.f_107 t.e_107 ["table"] (zQ K):=by
 have G_100:=@yy P w K mg base t T;refine T.d_107.F.ok sc_107 ∅ ?_;rintro cdv A outer s H vs Q E hr ⟨tb,rfl,F,hTV,hL,h0,h5,q⟩;refine ⟨_,
   (XSs.h
   (ai
    (eC (i:=1) sc_107.nd rfl ll rfl Jkl (tns:=["state"]) (cns:=[]) (ci:=[]) rfl (CompSc.of Jkl) (aN (yqv 0 vl)) (fun _=>(av (i:=1) (show List.Nodup [(".0":Str),("state":Str)] by decide +kernel) rfl ll (Or.inr Jkl))) (fun _=>bN) (fun _=>c5))
   (ai
    (aq (i:=2) sc_107.nd rfl ll (aI (aa af ac)))
   (ai
    (dJ PassesOwn.never (x5 (yqv 2 vl) (fun _=>rfl))
     (ai
      (aq (i:=3) sc_107.nd rfl ll (jn PySem.F.plainAttrs_list PySem.F.slot_list_pop PySem.F.type_list_pop rC (yqv 2 vl)))
     (aj
      (aL (cV (cv (ak az (yqv 1 vl) (yqv 3 vl))))
       (ai
        (fZ c5 (ni (yqv 1 vl) (yqv 3 vl) kg))
       (aj
        (aR (c6 PySem.F.plainAttrs_list PySem.F.slot_list_extend PySem.F.type_list_extend w9 (yqv 2 vl) (aa (au T.d_100 G_100 hr.m (aa (ak ar (ak az (yqv 0 vl) (yqv 3 vl)) af) ac) gl) ac)))))
       aC))))
   (aj
    (aw (yqv 1 vl))))))),?_⟩
 rw [show aP _ [V.ref tb]=[some (.ref tb),none,none,none] from rfl];simp_arith! [];obtain ⟨xs,hT,hF⟩:=id hTV;have lF:=hF.length;refine ⟨⟨_,SqL.of hT⟩,fun wa hwa bk=>?_⟩;refine Bf (fun _=>.bl false) (by rw [b9];omega) (SqL.of hT) hwa (fun x hx H' Q' sm hh=>by rwa [];exact hh) ?_;refine later ?_;simp_arith! [];intro ah hah;refine later ?_;simp_arith! [bK];have nwa:wa≠ah:=am ae hah;have s1:=(Same.upd (o:=.lst (xs.map fun _=>V.bl false)) hwa).trans (Same.upd (o:=.lst [V.int 0]) hah);have hah0:H ah=none:=(Same.upd hwa).free hah;refine eQ (fun σ H'=>Same H H'/\∃ws as o3,H' wa=some (.lst (blV ws))/\H' ah=some (.lst (nlN as))/\as.length+2 * ws.countP (fun b=>! b)<=2 * F.length+1/\Wlk F ws as/\σ=[some (.ref tb),some (.ref wa),some (.ref ah),o3]) (fun _ H'=>muL wa ah H') ?_ ?_
 ·refine ⟨s1,zAI (List.replicate F.length false) ([0]) _ ?_ ae (by have:=List.countP_le_length (p:=fun b=>! b) (l:=List.replicate F.length false);rw [vd] at this;simp only [List.length_singleton];omega) ⟨Jll,fun a ha=>by rw [zq9.mp ha];exact ⟨.zero,h0⟩,fun i hi=>?_,.inr Jll,fun i b hi=>?_⟩ rfl⟩
  ·rw [ao nwa,ae];unfold blV;rw [List.map_replicate,<- lF];congr 2;exact List.map_const ..
  ·rw [AX] at hi;split at hi<;>cases hi
  ·rw [AX] at hi;split at hi<;>cases hi
 rintro σ H1 ⟨sm,ws,as,o3,hwe,hae,hal,hW,rfl⟩;simp_arith! [bK];refine zn _ (.inl (zn _ (SqL.of hae) rfl)) ?_
 by_cases e:as=[]
 ·subst e;rw [zq1 Jkm];refine later ?_;simp_arith! [];exact q wa ws H1 sm hwa hwe hW.len (hW.over hL)
 ·obtain ⟨as',a,rfl⟩:∃as' a,as=as'++[a]:=⟨as.dropLast,as.getLast e,(AC e).symm⟩
  have ha:=hW.rch a (cW _ (zq9.mpr rfl));have hn:nlN (as'++[a])=nlN as'++[V.int a]:=by unfold nlN;rw [cq];rfl
  rw [hn] at hae ⊢;rw [zq2 Jll];have hm:muL wa ah H1=3 * ws.countP (fun b=>! b)+(as'.length+1):=by rw [rD hwe hae,zq8,aO];rfl
  refine zn (fun σ' H'=>(Same H H'/\∃ws as o3,H' wa=some (.lst (blV ws))/\H' ah=some (.lst (nlN as))/\as.length+2 * ws.countP (fun b=>! b)<=2 * F.length+1/\Wlk F ws as/\σ'=[some (.ref tb),some (.ref wa),some (.ref ah),o3])/\muL wa ah H'<muL wa ah H1) (fun σ' H' h=>zAC _ h.2 rfl h.1) ?_;refine ⟨.inl ⟨rfl,_,SqL.of hae⟩,zAA _ _ hae (by rw [zq8,bV,AU,gG (zq6 _),nA];rfl) (later ?_)⟩;rw [List.dropLast_concat];have hm2:Same H (upd H1 ah (.lst (nlN as'))):=sm.updM hah0;have hwe2:upd H1 ah (.lst (nlN as')) wa=some (.lst (blV ws)):=by rw [ao nwa];exact hwe
  have hae2:upd H1 ah (.lst (nlN as')) ah=some (.lst (nlN as')):=ae;generalize upd H1 ah (.lst (nlN as'))=H2 at hm2 hwe2 hae2 ⊢;have hlt:a<ws.length:=by rw [hW.len];exact ha.2
  rw [zq8,bV] at hal;simp_arith! [bK];refine zAA _ _ (SqL.of hwe2) (aJ (xC (zq5 hlt))) (zn _ rfl ?_)
  cases hwa2:ws[a] with
  |true=>
   rw [zq1 Jkm];refine ⟨⟨hm2,zAI ws as' _ hwe2 hae2 Jlk (hW.skip (by rw [zq5 hlt,hwa2])) rfl⟩,?_⟩;rw [hm,rD hwe2 hae2,aO];omega
  |false=>
   rw [zq2 Jkm];have hb:F[a]?=some F[a]:=zq5 ha.2;refine zAM wa _ _ a rfl rfl hwe2 (FL.mF (by rw [Be];exact hlt)) (later ?_);have eS:(blV ws).set a (V.bl true)=blV (ws.set a true):=by unfold blV;rw [List.map_set]
   rw [eS];have hm3:Same H (upd H2 wa (.lst (blV (ws.set a true)))):=hm2.updM hwa;have hwe3:upd H2 wa (.lst (blV (ws.set a true))) wa=some (.lst (blV (ws.set a true))):=ae;have hae3:upd H2 wa (.lst (blV (ws.set a true))) ah=some (.lst (nlN as')):=by rw [ao nwa.symm];exact hae2
   generalize upd H2 wa (.lst (blV (ws.set a true)))=H3 at hm3 hwe3 hae3 ⊢;obtain ⟨xs3,x3,hT3,hx3,q0,a0,e0,vs,rfl,hq,ha0,hds,he⟩:=(hTV.same hm3).at hb;simp_arith! [bK];refine ⟨.inl ⟨rfl,_,SqL.of hae3⟩,zAA _ _ (SqL.of hT3) (aJ hx3) ?_⟩;simp_arith! [bK];refine zAA _ _ hq rfl ?_;rw [bK];refine zn (F[a].ed) he fun p5 H5 s5 hp5 he5=>?_;have cs:=Bl (show ws[a]?=some false by rw [zq5 hlt,hwa2]);have tl:=sk F[a].ed;have hap:nlN as'++nlN F[a].ed.tg=nlN (as'++F[a].ed.tg):=by unfold nlN;rw [cq]
   refine zAY ah p5 _ _ rfl rfl (s5 _ _ hae3) he5 (by rw [aO,aO,b9];omega) ⟨(hm3.trans s5).updM hah0,zAI (ws.set a true) (as'++F[a].ed.tg) _ (by rw [ao nwa];exact s5 _ _ hwe3) (by rw [ae,hap]) (by rw [zq8];omega) (hW.take hL hb) rfl⟩ ?_;rw [hm,rD (ws:=ws.set a true) (vs:=nlN (as'++F[a].ed.tg)) (by rw [ao nwa];exact s5 _ _ hwe3) (by rw [ae,hap]),aO,zq8];omega
variable {H:Hp} {i:Nat} {ks:List Nat}
def opV:Option Nat->V
 |none=>.non
 |some n=>.int (n:Int)
def plV(l:List (Option Nat)):List V:=l.map opV
theorem dg{l:List (Option Nat)}{o:Option Nat}(h:l[i]?=some o):(plV l)[i]?=some (opV o):=by unfold plV;rw [bq,h];rfl
theorem mT{l:List (Option Nat)}:(plV l).length=l.length:=by unfold plV;rw [zq4]
theorem pz{l:List (Option Nat)}{o:Option Nat}:plV (l++[o])=plV l++[opV o]:=by unfold plV;rw [cq];rfl
def sX(K:W.Frag)(e f:Addr)(H:Hp)(Q:VK):Prop:=∃(ed:FZ.Ed)(pl:List (Option Nat)),SqT K H e (d8 ed)/\SqL K H f (plV pl)/\(∀i∈ed.tg,∃n,pl[i]?=some (some n))/\∀e' H',Same H H'->SqT K H' e' (d8 (GZ.mG pl ed))->Q (.ref e') H'
def uM(K:W.Frag):Sp:=fun vs H Q _=>∃e f:Addr,vs=[.ref e,.ref f]/\sX K e f H Q
theorem rV{K:W.Frag}{e f:Addr}{Q:VK}{E:XK}:uM K [.ref e,.ref f] H Q E=sX K e f H Q:=propext ⟨by rintro ⟨_,_,e,q⟩;cases e;exact q,fun q=>zAE _ _ rfl q⟩
def NewS(K:W.Frag)(N:Addr->Prop)(H:Hp)(x:V)(b:FZ.Blk):Prop:=∃q a e vs,x=.ref q/\SqT K H q [.ref a,.ref e]/\H a=some (.lst vs)/\Paired (DeedV1 K H) vs b.ds/\SqT K H e (d8 b.ed)/\N a
theorem NewS.mv{K:W.Frag}{N M:Addr->Prop}{H':Hp}{x:V}{b:FZ.Blk}(h:NewS K N H x b)(t:TSame H H')(k:∀a vs,N a->H a=some (.lst vs)->H' a=some (.lst vs))(hm:∀a,N a->M a):NewS K M H' x b:=by obtain ⟨q,a,e,vs,ex,h1,h2,h3,h4,h5⟩:=h;exact zBB q a e vs ex (t.seqT h1) (k _ _ h5 h2) (FL.Paired.imp h3 fun y _ d _ z=>z.ts t) (t.seqT h4) (hm _ h5)
def ix(ks:List Nat):List (Key×V):=ks.zipIdx.map fun p=>(.inl (p.1:Int),.int (p.2:Int))
theorem oM(k:Nat):∀(ks:List Nat)(s:Nat),ce ((ks.zipIdx s).map fun p=>((Sum.inl (p.1:Int):Key),V.int (p.2:Int))) (.inl (k:Int))=if k∈ks then some (.int ((s+ks.idxOf k:Nat):Int)) else none
 | [],s=>by rw [zq1 Jll];rfl
 |x::ks,s=>by
  rw [List.zipIdx_cons,cm]
  by_cases e:x=k
  ·rw [dc (by show (Sum.inl (x:Int):Key)=_;rw [e]),zq2 (by rw [e];exact cN ..),e,qB,Nat.add_zero]
  ·rw [cT (by show ¬(Sum.inl (x:Int):Key)=_;intro z;injection z with z;exact e (Int.ofNat.inj z)),oM k ks (s+1),show (x::ks).idxOf k=ks.idxOf k+1 by rw [List.idxOf_cons,show (x==k)=false by simpa using e];rfl]
   by_cases hk:k∈ks
   ·rw [zq2 hk,zq2 (b7 _ hk),show s+1+ks.idxOf k=s+(ks.idxOf k+1) by omega]
   ·rw [zq1 hk,zq1 (fun z=>(zq11.mp z).elim (fun z=>e z.symm) hk)]
theorem jJ{k:Nat}:ce (ix ks) (.inl (k:Int))=if k∈ks then some (.int (ks.idxOf k:Int)) else none:=by have z:=oM k ks 0;rw [AK] at z;exact z
theorem oJ:(ix ks).length=ks.length:=by unfold ix;rw [zq4,List.length_zipIdx]
theorem vP{m:Nat}(h:¬m∈ks):fv (ix ks) (.inl (m:Int)) (.int (ks.length:Int))=ix (ks++[m]):=by unfold fv;rw [fK,jJ,zq1 h,zq1 Jkm];unfold ix;rw [List.zipIdx_append,cq];simp
def xt(K:W.Frag)(tb:Addr)(H:Hp)(Q:VK):Prop:=∃(F:List FZ.Blk),TabV K H tb F/\GY.Led F/\0<F.length/\F.length<=5000/\(∀b∈F,b.ds.length<=1000)/\
 ∀p f g cs pl N ys H',Same H H'->H f=none->H g=none->SqT K H' p [.ref f,.ref g]->H' g=some (.lst (plV pl))->H' f=some (.lst ys)->Paired (NewS K (fun c=>H c=none/\c≠f) H') ys N->GY.Prt F cs->GY.nxt F cs=cs->GZ.Few F (Rch F) cs pl N->pl[0]?=some (some 0)->Q (.ref p) H'
def zN(K:W.Frag):Sp:=fun vs H Q _=>∃tb:Addr,vs=[.ref tb]/\xt K tb H Q
theorem Iq{K:W.Frag}{tb:Addr}{Q:VK}{E:XK}:zN K [.ref tb] H Q E=xt K tb H Q:=propext ⟨by rintro ⟨_,e,q⟩;cases e;exact q,fun q=>zn _ rfl q⟩
def FwI(K:W.Frag)(H0:Hp)(xs:List V)(cs:List Nat)(ws:List Bool)(pn pp pk:Addr)(m:Nat)(pl:List (Option Nat))(H:Hp):Prop:=Same H0 H/\H pn=some (.dK (ix (GX.ksF (GZ.rcl cs ws m))))/\H pp=some (.lst (plV pl))/\∃kp zs,H pk=some (.lst zs)/\GZ.Kpt cs ws m kp/\Paired (fun z (j:Nat)=>xs[j]?=some z) zs kp
theorem mq{ws:List Bool}{b:Bool}(h:ws[i]?=some b):ws.getD i false=b:=by rw [cn,h];rfl
theorem jR{cs:List Nat}(h:i<cs.length):(nlN cs)[i]?=some (.int (cs.getD i 0:Int)):=by rw [cc (zq5 h),cn,zq5 h];rfl
theorem tW{cs:List Nat}{ws:List Bool}(h:ws.getD 0 false=true):∀m,(GX.ksF (GZ.rcl cs ws (m+1))).head?=some (cs.getD 0 0)
 |0=>by
  rw [GZ.cE,zq2 h,GX.cg];rfl
 |m+1=>by
  have ih:=tW (cs:=cs) h m;rw [GZ.cE]
  split
  ·rw [GX.cg]
   split
   ·exact ih
   ·rw [List.head?_append,ih];rfl
  ·exact ih
theorem yS{cs:List Nat}{ws:List Bool}(h:ws.getD 0 false=true){m:Nat}(hm:0<m):(GZ.pls cs ws m)[0]?=some (some 0):=by
 obtain ⟨m,rfl⟩:∃k,m=k+1:=⟨m-1,Jlk⟩
 unfold GZ.pls;rw [bq,xh hm,vo];unfold GZ.plc;rw [zq2 h];have z:=tW (cs:=cs) h m
 cases e:GX.ksF (GZ.rcl cs ws (m+1)) with
 |nil=>rw [e] at z;cases z
 |cons a l=>
  rw [e] at z
  cases z
  rw [qB]
theorem BR(T:Txt K mg t):FnOk P w K mg base CX0 1 t.f_101 t.e_101 ["ending","places"] (uM K):=by
 refine T.d_101.F.ok zG ∅ ?_;rintro cdv A outer s H vs Q E hr ⟨e,f,rfl,ed,pl,he,hf,ht,q⟩;refine ⟨_,
   (XSs.h
   (ai
    (aL (ap bu (ak ar (yqv 0 vl) af) aH (aA _))
     (aj
      (aw (aE (aa aH (aa (ak az (yqv 1 vl) (ak ar (yqv 0 vl) af)) ac)))))
     aC)
   (ai
    (aL (ap bu (ak ar (yqv 0 vl) af) aH (aA _))
     (aj
      (aw (aE (aa aH (aa (ak ar (yqv 0 vl) af) (aa (ak az (yqv 1 vl) (ak ar (yqv 0 vl) af)) (aa (ak az (yqv 1 vl) (ak ar (yqv 0 vl) af)) ac)))))))
     aC)
   (aj
    (aw (yqv 0 vl)))))),?_⟩
 rw [show aP _ [V.ref e,V.ref f]=[some (.ref e),some (.ref f)] from rfl];rwa []
 cases ed with
 |stop=>
  refine zAD _ _ he rfl rfl (zn _ rfl ?_);rw [zq1 Jkk];refine zAD _ _ he rfl rfl (zn _ rfl ?_);rw [zq1 Jkk];exact q e H (Same.refl H) he
 |go i=>
  obtain ⟨n,hn⟩:=ht i (by simp [FZ.Ed.tg]);refine zAD _ _ he rfl rfl (zn _ rfl ?_);rw [zq2 Jkk];refine zAA _ _ he rfl ?_;rwa [];refine zAA _ _ hf (aJ (dg hn)) fun p hp=>q p _ (Same.upd hp) (SqT.of ?_);rw [ae,GZ.mG,cn,hn];rfl
 |choose n i j=>obtain ⟨a,ha⟩:=ht i (by simp [FZ.Ed.tg]);obtain ⟨b,hb⟩:=ht j (by simp [FZ.Ed.tg]);refine zAD _ _ he rfl rfl (zn _ rfl ?_);rw [zq1 Jkk];refine zAD _ _ he rfl rfl (zn _ rfl ?_);rw [zq2 Jkk];refine zAA _ _ he rfl (zAA _ _ he rfl ?_);rwa [];refine zAA _ _ hf (aJ (dg ha)) (zAA _ _ he rfl ?_);rwa [];refine zAA _ _ hf (aJ (dg hb)) fun p hp=>q p _ (Same.upd hp) (SqT.of ?_);rw [ae,GZ.mG,cn,cn,ha,hb];rfl
theorem EV(T:Txt K mg t):FnOk P w K mg base CX0 4 t.f_102 t.e_102 ["table"] (zN K):=by
 have G_103:=@EU P w K mg base t T;have G_107:=@EZ P w K mg base t T;have G_101:=@BR P w K mg base t T;refine T.d_102.F.ok sc_102 ∅ ?_;rintro cdv A outer s H vs Q E hr ⟨tb,rfl,F,hTV,hL,h0,h5,hds,q⟩;have hu:=lE hr;refine ⟨_,
   (XSs.h
   (ai
    (aq (i:=1) sc_102.nd rfl ll (au T.d_103 G_103 hr.m (aa (yqv 0 vl) ac) gl))
   (ai
    (aq (i:=2) sc_102.nd rfl ll (au T.d_107 G_107 hr.m (aa (yqv 0 vl) ac) gl))
   (ai
    (aq (i:=3) sc_102.nd rfl ll wY)
   (ai
    (aq (i:=4) sc_102.nd rfl lc (aI ac))
   (ai
    (aq (i:=5) sc_102.nd rfl ll (aI ac))
   (ai
    (b8 PassesOwn.never rfl (cK gl T.z_range (aa (aD aF gl T.z_len PySem.boot_len (aa (yqv 0 vl) ac)) ac)) (av (i:=6) sc_102.nd rfl ll)
     (ai
      (aL (cV (cv (ak az (yqv 2 vl) (yqv 6 vl))))
       (ai
        (aR (c6 PySem.F.plainAttrs_list PySem.F.slot_list_append PySem.F.type_list_append aX (yqv 4 vc) (aa dF ac)))
       (aj
        nq))
       aC)
     (bo
      (aL (jp (gF hu (ak az (yqv 1 vl) (yqv 6 vl)) (yqv 3 vl)))
       (ai
        (ig hu (yqv 3 vl) (ak az (yqv 1 vl) (yqv 6 vl)) (aD vz gl T.z_len PySem.boot_len (aa (yqv 3 vl) ac)) rfl)
       (aj
        (aR (c6 PySem.F.plainAttrs_list PySem.F.slot_list_append PySem.F.type_list_append aX (yqv 5 vl) (aa (ak az (yqv 0 vl) (yqv 6 vl)) ac)))))
       aC)
     (aj
      (aR (c6 PySem.F.plainAttrs_list PySem.F.slot_list_append PySem.F.type_list_append aX (yqv 4 vc) (aa (qi hu (yqv 3 vl) (ak az (yqv 1 vl) (yqv 6 vl)) (fun _ _=>rfl)) ac)))))))
   (aj
    (aw (aE (aa (br (tns:=["state"]) (cns:=["places"]) (ci:=[4]) rfl (CompSc.of Jkl) (aN (yqv 5 vl)) (fun _=>(av (i:=1) (show List.Nodup [(".0":Str),("state":Str),("places":Str)] by decide +kernel) rfl ll (Or.inr Jkl))) (fun _=>bN) (fun _=>(aE (aa (bL cA gl T.z_list boot_list (aa (ak ar (yqv 1 vl) af) ac)) (aa (au T.d_101 G_101 hr.m (aa (ak ar (yqv 1 vl) af) (aa (yqv 2 vc) ac)) gl) ac))))) (aa (yqv 4 vc) ac)))))))))))),?_⟩
 rw [show aP _ [V.ref tb]=[some (.ref tb),none,none,none,none,none,none] from rfl];simp_arith! [Ie];refine zAW F hTV hL h5 hds fun pc cs H1 s1 hpc hec hP hst=>later ?_;simp_arith! [II];refine zAW F (hTV.same s1) hL h0 h5 fun pw ws H2 s2 hpw hew hwl hR=>later ?_;simp_arith! [];intro pn hpn;refine later ?_;simp_arith! [];intro pp hpp;refine later ?_;simp_arith! [];intro pk hpk;refine later ?_;simp_arith! [];obtain ⟨xs,hT,hF⟩:=id hTV;have lF:=hF.length;have s12:=s1.trans s2;have t1:=Same.upd (o:=.dK []) hpn;have t2:=Same.upd (o:=.lst []) hpp;have t3:=Same.upd (o:=.lst []) hpk;have s3:=s12.trans ((t1.trans t2).trans t3);have e1:upd (upd (upd H2 pn (.dK [])) pp (.lst [])) pk (.lst []) pn=some (.dK []):=t3 _ _ (t2 _ _ ae);have e2:upd (upd (upd H2 pn (.dK [])) pp (.lst [])) pk (.lst []) pp=some (.lst []):=t3 _ _ ae;have e3:upd (upd (upd H2 pn (.dK [])) pp (.lst [])) pk (.lst []) pk=some (.lst []):=ae;have f1:H2 pn=none:=hpn;have f2:H2 pp=none:=t1.free hpp;have f3:H2 pk=none:=(t1.trans t2).free hpk;have n12:pn≠pp:=am ae hpp;have n13:pn≠pk:=am (t2 _ _ ae) hpk;have n23:pp≠pk:=am ae hpk;have s23:=(t1.trans t2).trans t3;generalize upd (upd (upd H2 pn (.dK [])) pp (.lst [])) pk (.lst [])=H3 at s3 e1 e2 e3 s23 ⊢;clear t1 t2 t3 hpn hpp hpk;have hec2:=s2 _ _ hec;have hT2:=s12 _ _ hT;refine zAG _ (.inl (SqL.of (s3 _ _ hT))) Jlk Jlk ?_;rw [kE,lF];refine fO (fun i σ H'=>FwI K H2 xs cs ws pn pp pk i (GZ.pls cs ws i) H'/\∃o6,σ=[some (.ref tb),some (.ref pc),some (.ref pw),some (.ref pn),some (.ref pp),some (.ref pk),o6]) ⟨zAF s23 e1 e2 (zAA ([]) ([]) e3 GZ.Jx .nil),_,rfl⟩ ?_ ?_
 ·rintro i σ H4 hi ⟨⟨sm,d1,d2,kp,zs,d3,hK,hZ⟩,o6,rfl⟩;have hwi:ws[i]?=some ws[i]:=zq5 Jlk;have hci:i<cs.length:=by rw [hP.len];exact hi
  simp_arith! [];refine zAA _ _ (SqL.of (sm _ _ hew)) (aJ (xC hwi)) (zn _ rfl ?_)
  cases hw:ws[i] with
  |false=>
   rw [zq2 Jkm];have hg:=mq (hwi.trans (congrArg some hw));refine ⟨.inl ⟨rfl,_,SqL.of d2⟩,zAC _ d2 (by rw [mT,b9];unfold GZ.pls;rw [zq4,cX];omega) (later ?_)⟩;simp_arith! [];refine ⟨zAF (sm.updM f2) ?_ ?_ (zAA kp zs ?_ (GZ.BE hK hg) hZ),_,rfl⟩
   ·rw [ao n12,GZ.cE,zq1 (by rw [hg];decide)];exact d1
   ·rw [ae,GZ.Ca hg,pz];rfl
   ·rw [ao n23.symm];exact d3
  |true=>
   rw [zq1 Jkm];have hg:=mq (hwi.trans (congrArg some hw));refine later ?_;simp_arith! [];refine zn (fun σ H'=>FwI K H2 xs cs ws pn pp pk (i+1) (GZ.pls cs ws i) H'/\σ=[some (.ref tb),some (.ref pc),some (.ref pw),some (.ref pn),some (.ref pp),some (.ref pk),some (.int i)]) ?_ ?_
   ·unfold jl;simp_arith! [];refine zAA _ _ (SqL.of (sm _ _ hec2)) (aJ (jR hci)) (zAA pn _ rfl (DGet.k (k:=.inl (cs.getD i 0:Int)) d1) ?_);rw [jJ];have lK:=(GX.fP (GZ.rcl cs ws i)).2.2;have lR:(GZ.rcl cs ws i).length<=i:=by unfold GZ.rcl;rw [zq4];have:=qm (fun i=>ws.getD i false) (List.range i);rw [cX] at this;exact this
    by_cases hc:cs.getD i 0∈GX.ksF (GZ.rcl cs ws i)
    ·rw [zq2 hc,zq1 (by show ¬(false=true);decide)];obtain ⟨ek,hK'⟩:=GZ.BD hK hg hc;exact zAF sm (by rw [ek];exact d1) d2 (zAA kp zs d3 hK' hZ)
    ·rw [zq1 hc,zq2 Jkm];obtain ⟨ek,hK'⟩:=GZ.BC hK hg hc;refine zAA pn _ rfl d1 (zAA _ _ (SqL.of (sm _ _ hec2)) (aJ (jR hci)) (zn _ (DPut.k (k:=.inl (cs.getD i 0:Int)) d1 (by rw [oJ,b9];omega)) (later ?_)));rw [oJ,vP hc];have m1:Same H2 (upd H4 pn (.dK (ix (GX.ksF (GZ.rcl cs ws i)++[cs.getD i 0])))):=sm.updM f1;have a1:upd H4 pn (.dK (ix (GX.ksF (GZ.rcl cs ws i)++[cs.getD i 0]))) pn=some (.dK (ix (GX.ksF (GZ.rcl cs ws i)++[cs.getD i 0]))):=ae;have a2:upd H4 pn (.dK (ix (GX.ksF (GZ.rcl cs ws i)++[cs.getD i 0]))) pp=some (.lst (plV (GZ.pls cs ws i))):=by rw [ao n12.symm];exact d2
     have a3:upd H4 pn (.dK (ix (GX.ksF (GZ.rcl cs ws i)++[cs.getD i 0]))) pk=some (.lst zs):=by rw [ao n13.symm];exact d3
     generalize upd H4 pn (.dK (ix (GX.ksF (GZ.rcl cs ws i)++[cs.getD i 0])))=H5 at m1 a1 a2 a3 ⊢;simp_arith! [];have hxi:xs[i]?=some xs[i]:=zq5 Jlk;have lz:zs.length<=i:=by rw [hZ.length,hK.len];omega
     refine ⟨.inl ⟨rfl,_,SqL.of a3⟩,zAA _ _ (SqL.of (m1 _ _ hT2)) (aJ hxi) (zBI _ a3 (by rw [b9];omega) (m1.updM f3) ?_ ?_ (zAA (kp++[i]) (zs++[xs[i]]) ae hK' (FL.Paired.snoc (F:=fun z (j:Nat)=>xs[j]?=some z) hxi hZ)))⟩
     ·rw [ao n13,ek];exact a1
     ·rw [ao n23];exact a2
   rintro σ H5 ⟨⟨sm5,d1,d2,kp,zs,d3,hK,hZ⟩,rfl⟩;refine later ?_;simp_arith! [];have hmem:cs.getD i 0∈GX.ksF (GZ.rcl cs ws (i+1)):=GX.mem_ksF.mpr (GZ.mem_rcl.mpr (zAC i (x8 _) hg rfl));refine ⟨.inl ⟨rfl,_,SqL.of d2⟩,zAA _ _ (SqL.of (sm5 _ _ hec2)) (aJ (jR hci)) (zAA pn (.int ((GX.ksF (GZ.rcl cs ws (i+1))).idxOf (cs.getD i 0):Int)) rfl ?_ (zAG _ d2 (by rw [mT,b9];unfold GZ.pls;rw [zq4,cX];omega) (zAF (sm5.updM f2) ?_ ?_ (zAA kp zs ?_ hK hZ)) ⟨_,rfl⟩))⟩
   ·have z:=DGet.k (k:=.inl (cs.getD i 0:Int)) d1;rw [jJ,zq2 hmem] at z;exact z
   ·rw [ao n12];exact d1
   ·rw [ae,GZ.Ff hg,pz];rfl
   ·rw [ao n23.symm];exact d3
 ·rintro σ H4 ⟨⟨sm,d1,d2,kp,zs,d3,hK,hZ⟩,o6,rfl⟩;dsimp only;refine later ?_;simp_arith! [rV];have hcl:∀(i:Nat)(b:FZ.Blk),Rch F i->F[i]?=some b->∀j∈b.ed.tg,Rch F j:=fun i b r hb j hj=>.step r hb hj;have hFew:=GZ.Bv hP hst hL hwl hR hcl hK;have sA:=s12.trans sm;refine ⟨⟨_,SqL.of d3⟩,fun acc hacc bk=>?_⟩;have lz:=hZ.length;have lk:kp.length<=F.length:=by
   rw [hK.len];have l1:=(GX.fP (GZ.rcl cs ws F.length)).2.2;have l2:(GZ.rcl cs ws F.length).length<=F.length:=by unfold GZ.rcl;rw [zq4];have:=qm (fun i=>ws.getD i false) (List.range F.length);rw [cX] at this;exact this
   omega
  refine cP (xs:=zs) (fun i ys H'=>Same H4 H'/\H' acc=some (.lst ys)/\ys.length=i/\Paired (NewS K (fun c=>H4 c=none/\c≠acc) H') ys ((GZ.few F (GZ.pls cs ws F.length) kp).take i)) ?_ ?_ ?_ ?_
  ·exact zAF (Same.upd hacc) ae rfl .nil
  ·intro i ys H' _ h;exact SqL.of (h.1 _ _ d3)
  ·rintro i z ys H5 os hzi ho ⟨s5,hacc5,ly,hA⟩
   match os,ho with
   | [o],_=>
    obtain ⟨j,hj,hxj⟩:=L2.Paired.get hZ hzi;obtain ⟨hjF,hjw,_⟩:=hK.at' i j hj;obtain ⟨b,hb,q0,a0,e0,vs,rfl,hq,ha0,hdv,he⟩:=L2.Paired.get hF hxj;have sB:=sA.trans s5;rwa [rV];refine ⟨zn ([some (.ref q0)]) rfl rfl,?_⟩;rw [zq2 trivial];have hRj:=(hR j).mp (by rw [cn] at hjw;rw [zq5 Jlk] at hjw ⊢;exact congrArg some hjw)
    refine zAA _ _ (sB.seqT hq) rfl (zAA a0 vs rfl (.inl (SqL.of (sB _ _ ha0))) fun l hl=>?_);have t1:=Same.upd (o:=.lst vs) hl;have sC:=sB.trans t1;refine zAA _ _ (sC.seqT hq) rfl ?_;rw [rV];refine zAD b.ed (GZ.pls cs ws F.length) (sC.seqT he) (SqL.of (t1 _ _ (s5 _ _ d2))) (fun u hu=>?_) fun e' H6 s6 he6 p7 hp7=>?_
    ·have hu1:=hL b (bg hb) u hu;obtain ⟨k,c,hk,_⟩:=hFew.to u _ (hcl j b hRj hb u hu) (zq5 hu1);exact ⟨k,hk⟩
    have t7:=Same.upd (o:=.tup [V.ref l,V.ref e']) hp7;have t17:=(t1.trans s6).trans t7;have hac:=t17 _ _ hacc5;have hla:l≠acc:=(am hacc5 hl).symm;have tu:TSame (upd H6 p7 (.tup [V.ref l,V.ref e'])) (upd (upd H6 p7 (.tup [V.ref l,V.ref e'])) acc (.lst (ys++[V.ref p7]))):=TSame.updL hac;have hiz:=(zq7.mp hj).1;refine zAV hac (by rw [b9];omega) ((s5.trans t17).updM hacc) ae (by rw [zq8,bV,ly]) ?_;have hzl:i<(GZ.few F (GZ.pls cs ws F.length) kp).length:=by unfold GZ.few;rw [zq4];exact hiz
    have hze:(GZ.few F (GZ.pls cs ws F.length) kp)[i]=⟨b.ds,GZ.mG (GZ.pls cs ws F.length) b.ed⟩:=by
     have z:(GZ.few F (GZ.pls cs ws F.length) kp)[i]?=some ⟨b.ds,GZ.mG (GZ.pls cs ws F.length) b.ed⟩:=by unfold GZ.few;rw [bq,hj,vo,cn,hb];rfl
     exact (zq7.mp z).2
    rw [df hzl,hze];refine FL.Paired.snoc (F:=NewS K (fun c=>H4 c=none/\c≠acc) (upd (upd H6 p7 (.tup [V.ref l,V.ref e'])) acc (.lst (ys++[V.ref p7])))) (zAY p7 l e' vs rfl (tu.seqT (SqT.of ae)) ?_ ?_ (tu.seqT (t7.seqT he6)) (s5.free hl) hla) (FL.Paired.imp hA fun y _ c _ z=>z.mv (t17.ts.trans tu) (fun a vs ha e=>?_) fun _ h=>h)
    ·rw [ao hla];exact t7 _ _ (s6 _ _ ae)
    ·exact FL.Paired.imp hdv fun y _ d _ z=>((z.ts sB.ts).ts t17.ts).ts tu
    ·rw [ao ha.2];exact t17 _ _ e
  rintro ys H5 ⟨s5,hacc5,ly,hA⟩;rw [lz,show kp.length=(GZ.few F (GZ.pls cs ws F.length) kp).length by unfold GZ.few;rw [zq4],ef] at hA;have hp0:(GZ.pls cs ws F.length)[0]?=some (some 0):=yS (mq ((hR 0).mpr .zero)) h0;intro p8 hp8;have t8:=Same.upd (o:=.tup [V.ref acc,V.ref pp]) hp8;have s58:=s5.trans t8;have fpp:H pp=none:=s12.free f2;have hpp5:=s5 _ _ d2;exact q p8 acc pp cs _ _ ys _ (sA.trans s58) (sA.free hacc) fpp (SqT.of ae) (t8 _ _ hpp5) (t8 _ _ hacc5) (FL.Paired.imp hA fun y _ c _ z=>z.mv t8.ts (fun a vs _ e=>t8 _ _ e) fun a ha=>⟨sA.free ha.1,ha.2⟩) hP hst hFew hp0
variable {a j:Nat}
def sZ(K:W.Frag)(tb:Addr)(H:Hp)(Q:VK):Prop:=∃(F:List FZ.Blk),TabV K H tb F/\GY.Led F/\0<F.length/\F.length<64/\∀p so H',Same H H'->H p=none->H' p=some (.lst (nlN so))->(∀i,i∈so↔Rch F i)->so.Pairwise (· < ·)->(∀i∈so,i<F.length)->Q (.ref p) H'
def uP(K:W.Frag):Sp:=fun vs H Q _=>∃tb:Addr,vs=[.ref tb]/\sZ K tb H Q
theorem Gc{K:W.Frag}{tb:Addr}{H:Hp}{Q:VK}{E:XK}:uP K [.ref tb] H Q E=sZ K tb H Q:=propext ⟨by rintro ⟨_,e,q⟩;cases e;exact q,fun q=>zn _ rfl q⟩
structure Fnd(F:List FZ.Blk)(fs:List Nat)(at':Nat):Prop where
 nd:fs.Nodup
 rc:∀i∈fs,Rch F i/\i<F.length
 zr:0∈fs
 cl:∀(k i:Nat)(b:FZ.Blk),k<at'->fs[k]?=some i->F[i]?=some b->∀j∈b.ed.tg,j∈fs
theorem Fnd.over{F:List FZ.Blk}{fs:List Nat}(h:Fnd F fs a)(ha:fs.length<=a):∀i,i∈fs↔Rch F i:=fun i=>⟨fun z=>(h.rc i z).1,fun r=>by
 induction r with
 |zero=>exact h.zr
 |step _ hb hj ih=>obtain ⟨k,hk⟩:=zq55.mp ih;exact h.cl k _ _ (by have:=(zq7.mp hk).1;omega) hk hb _ hj⟩
theorem Fnd.len{F:List FZ.Blk}{fs:List Nat}(h:Fnd F fs a):fs.length<=F.length:=by have z:=FZ.jj fs (List.range F.length) h.nd fun x hx=>zq33.mpr (h.rc x hx).2;rw [cX] at z;exact z
def Js:Option V->Nat
 |some (.int i)=>i.toNat
 |_=>0
def muR(σ:L2.St)(n:Nat):Nat:=n-Js ((σ[2]?).join)
theorem Fnd.add{F:List FZ.Blk}{fs:List Nat}(h:Fnd F fs a)(ha:a<=fs.length)(hj:Rch F j)(hjF:j<F.length)(hn:¬j∈fs):Fnd F (fs++[j]) a:=by
 refine ⟨?_,fun i hi=>?_,fk _ h.zr,fun k i b hk hi hb x hx=>?_⟩
 ·rw [zq65];exact zAB h.nd Jll (fun x hx y hy e=>hn (by rw [<- zq9.mp hy,<- e];exact hx))
 ·rcases zq20.mp hi with z | z
  ·exact h.rc i z
  ·rw [zq9.mp z];exact ⟨hj,hjF⟩
 ·rw [gH Jlk] at hi;exact fk _ (h.cl k i b hk hi hb x hx)
theorem rE{fs:List Nat}:inV (.int (j:Int)) (nlN fs)=decide (j∈fs):=by
 unfold nlN inV;rw [AO,eh,zq116,eo]
 constructor
 ·rintro ⟨x,hx,e⟩;have:(x:Int)=(j:Int):=by simpa [eqV] using e
  rw [<- Int.ofNat.inj this];exact hx
 ·intro h;exact zn j h (by simp [eqV])
theorem jQ{fs:List Nat}:(nlN fs).all c7=true:=by unfold nlN;rw [List.all_map,zq48];intro x _;rfl
theorem yi{fs:List Nat}:nlN (fs++[j])=nlN fs++[V.int j]:=by unfold nlN;rw [cq];rfl
theorem mN(T:Txt K mg t):FnOk P w K mg base CX0 1 t.f_142 t.e_142 ["_law_ending"] (sg K):=by
 refine T.d_142.F.ok GQ ∅ ?_;rintro cdv A outer s H vs Q E hr ⟨e,rfl,ed,he,q⟩;refine ⟨_,
   (XSs.h
   (ai
    (aL (ap bu (ak ar (yqv 0 vl) af) aH (aA _))
     (aj
      (aw (aI (aa (ak ar (yqv 0 vl) af) ac))))
     aC)
   (ai
    (aL (ap bu (ak ar (yqv 0 vl) af) aH (aA _))
     (aj
      (aw (aI (aa (ak ar (yqv 0 vl) af) (aa (ak ar (yqv 0 vl) af) ac)))))
     aC)
   (aj
    (aw (aI ac)))))),?_⟩
 rw [show aP _ [V.ref e]=[some (.ref e)] from rfl];rwa []
 cases ed with
 |stop=>
  refine zAD _ _ he rfl rfl (zn _ rfl ?_);rw [zq1 Jkk];refine zAD _ _ he rfl rfl (zn _ rfl ?_);rw [zq1 Jkk];exact fun p hp=>q p _ (Same.upd hp) hp ae
 |go i=>
  refine zAD _ _ he rfl rfl (zn _ rfl ?_);rw [zq2 Jkk];exact zAA _ _ he rfl fun p hp=>q p _ (Same.upd hp) hp ae
 |choose n i j=>refine zAD _ _ he rfl rfl (zn _ rfl ?_);rw [zq1 Jkk];refine zAD _ _ he rfl rfl (zn _ rfl ?_);rw [zq2 Jkk];exact zAA _ _ he rfl (zAA _ _ he rfl fun p hp=>q p _ (Same.upd hp) hp ae)
theorem BU(T:Txt K mg t):FnOk P w K mg base CX0 2 t.f_143 t.e_143 ["_law_table"] (uP K):=by
 have G_142:=@mN P w K mg base t T;refine T.d_143.F.ok sc_143 ∅ ?_;rintro cdv A outer s H vs Q E hr ⟨tb,rfl,F,hTV,hL,h0,h64,q⟩;refine ⟨_,
   (XSs.h
   (ai
    (aq (i:=1) sc_143.nd rfl ll (aI (aa af ac)))
   (ai
    (aq (i:=2) sc_143.nd rfl ll af)
   (ai
    (dJ PassesOwn.never (ap iH (yqv 2 vl) (aD aF gl T.z_len PySem.boot_len (aa (yqv 1 vl) ac)) (aA _))
     (ai
      (b8 PassesOwn.never rfl (aN (au T.d_142 G_142 hr.m (aa (ak ar (ak az (yqv 0 vl) (ak az (yqv 1 vl) (yqv 2 vl))) af) ac) gl)) (av (i:=3) sc_143.nd rfl ll)
       (aj
        (aL (ap dB (yqv 3 vl) (yqv 1 vl) rfl)
         (aj
          (aR (c6 PySem.F.plainAttrs_list PySem.F.slot_list_append PySem.F.type_list_append aX (yqv 1 vl) (aa (yqv 3 vl) ac))))
         aC)))
     (aj
      (aq (i:=2) sc_143.nd rfl ll (ay bW (yqv 2 vl) af)))))
   (aj
    (aw (aD iJ gl T.z_sorted boot_sorted (aa (yqv 1 vl) ac)))))))),?_⟩
 rw [show aP _ [V.ref tb]=[some (.ref tb),none,none,none] from rfl];simp_arith! [];intro fo hfo;refine later ?_;simp_arith! [];refine later ?_;simp_arith! [bK];refine eQ (fun σ H'=>Same H H'/\∃(fs:List Nat)(a:Nat)(o3:Option V),H' fo=some (.lst (nlN fs))/\a<=fs.length/\Fnd F fs a/\σ=[some (.ref tb),some (.ref fo),some (.int a),o3]) (fun σ _=>muR σ F.length) ⟨Same.upd hfo,zAO ([0]) 0 _ ae (bT _) ⟨Jll,fun i hi=>by rw [zq9.mp hi];exact ⟨.zero,h0⟩,Jll,fun k i b hk=>Jlk⟩ rfl⟩ ?_;rintro σ H1 ⟨sm,fs,a,o3,hfe,hal,hF,rfl⟩;simp_arith! [bK];refine zn _ (.inl (SqL.of hfe)) ?_;rw [aO];refine aU (fun hlt=>?_) (fun hge=>?_)
 ·have hla:a<fs.length:=by omega
  have hfa:fs[a]?=some fs[a]:=zq5 hla;have hra:=hF.rc fs[a] (dH hla);have hbF:F[fs[a]]?=some F[fs[a]]:=zq5 hra.2;have hlen:=hF.len;refine zn (fun σ' H'=>(Same H H'/\∃(fs:List Nat)(a:Nat)(o3:Option V),H' fo=some (.lst (nlN fs))/\a<=fs.length/\Fnd F fs a/\σ'=[some (.ref tb),some (.ref fo),some (.int a),o3])/\muR σ' F.length<F.length-a) (fun σ' H' h=>zAC _ (by show muR σ' F.length<F.length-a;exact h.2) rfl h.1) ?_;obtain ⟨xs1,x1,hT1,hx1,q0,a0,e0,vs,rfl,hq,ha0,hds,he⟩:=(hTV.same sm).at hbF;refine zAA _ _ (SqL.of hfe) (aJ (cc hfa)) ?_;simp_arith! [bK];refine zAA _ _ (SqL.of hT1) (aJ hx1) ?_;simp_arith! [bK];refine zAA _ _ hq rfl ?_;rw [bK];refine zn (F[fs[a]].ed) he fun p2 H2 s2 hp2 he2=>?_;refine zAC p2 rfl ⟨_,SqL.of he2⟩ ?_;have hp2n:p2≠fo:=(am hfe hp2).symm;refine cr (xs:=nlN F[fs[a]].ed.tg) (fun x σ H'=>(Same H H'/\H' p2=some (.lst (nlN F[fs[a]].ed.tg))/\∃ex,H' fo=some (.lst (nlN (fs++ex)))/\Fnd F (fs++ex) a/\∀(k j:Nat),k<x->F[fs[a]].ed.tg[k]?=some j->j∈fs++ex)/\∃o3,σ=[some (.ref tb),some (.ref fo),some (.int a),o3]) ⟨zAB (sm.trans s2) he2 (zAC ([]) (by rw [g9];exact s2 _ _ hfe) (by rw [g9];exact hF) (fun k j hk=>Jlk)),_,rfl⟩ ?_ ?_ ?_
  ·rintro x σ H' _ ⟨⟨_,h,_⟩,_⟩;exact SqL.of h
  ·rintro x v σ H3 hv ⟨⟨s3,h3,ex,hfx,hFx,hin⟩,o4,rfl⟩;have hx:x<F[fs[a]].ed.tg.length:=by have:=(zq7.mp hv).1;rw [aO] at this;exact this
   have htx:F[fs[a]].ed.tg[x]?=some F[fs[a]].ed.tg[x]:=zq5 hx;rw [cc htx] at hv
   cases hv
   have hjF:=hL _ (dH hra.2) _ (dH hx);have hjR:=Rch.step hra.1 hbF (dH hx);have hlx:=hFx.len;simp_arith! [];refine zAG _ (.inl (SqL.of hfx)) rfl jQ ?_;rw [rE]
   by_cases hm:F[fs[a]].ed.tg[x]∈fs++ex
   ·rw [bC hm,zq1 Jkm];refine ⟨zAB s3 h3 (zAC ex hfx hFx fun k j hk hj=>?_),_,rfl⟩
    by_cases hkx:k<x
    ·exact hin k j hkx hj
    ·obtain rfl:k=x:=by omega
     rw [htx] at hj
     cases hj
     exact hm
   ·rw [bh hm,zq2 Jkm];refine ⟨.inl ⟨rfl,_,SqL.of hfx⟩,zAG _ hfx (by rw [aO,b9];omega) (zAB (s3.updM hfo) (by rw [ao hp2n];exact h3) (zAC (ex++[F[fs[a]].ed.tg[x]]) (by rw [ae,<- kR,yi]) (by rw [<- kR];exact hFx.add (by rw [zq8];omega) hjR hjF hm) fun k j hk hj=>?_)) ⟨_,rfl⟩⟩;rw [<- kR]
    by_cases hkx:k<x
    ·exact fk _ (hin k j hkx hj)
    ·obtain rfl:k=x:=by omega
     rw [htx] at hj
     cases hj
     exact cW _ (zq9.mpr rfl)
  ·rintro σ H3 ⟨⟨s3,h3,ex,hfx,hFx,hin⟩,o4,rfl⟩;rw [aO] at hin;dsimp only;refine later ?_;simp_arith! [];refine ⟨⟨s3,zAO (fs++ex) (a+1) _ hfx (by rw [zq8];omega) ⟨hFx.nd,hFx.rc,hFx.zr,fun k i b hk hi hb j hj=>?_⟩ rfl⟩,?_⟩
   ·by_cases hka:k<a
    ·exact hFx.cl k i b hka hi hb j hj
    ·obtain rfl:k=a:=by omega
     rw [gH hla,hfa] at hi
     cases hi
     rw [hbF] at hb
     cases hb
     obtain ⟨x,hx⟩:=zq55.mp hj;exact hin x j (zq7.mp hx).1 hx
   ·show F.length-(a+1)<F.length-a;omega
 ·refine later ?_;simp_arith! [];have hlen:=hF.len;refine zAC (fs.map fun n:Nat=>(n:Int)) (SqL.of (by rw [hfe,eG];rfl)) (by rw [zq4];omega) fun l ns' hl hperm hsrt=>?_;have hnn:∃so:List Nat,ns'=so.map (fun n:Nat=>(n:Int))/\so.Perm fs:=by
   refine zn (ns'.map Int.toNat) ?_ ?_
   ·rw [eG];refine ((qC (g:=id) fun x hx=>?_).trans (List.map_id _)).symm;obtain ⟨n,_,rfl⟩:=zq43.mp (hperm.mem_iff.mp hx);rfl
   ·have:=hperm.map Int.toNat;rw [eG] at this;exact this.trans (.of_eq ((qC (g:=id) fun x hx=>rfl).trans (List.map_id _)))
  obtain ⟨so,rfl,hso⟩:=hnn;have hov:=hF.over Jlk;have hnd:so.Nodup:=hso.nodup_iff.mpr hF.nd;rw [zq125] at hsrt;refine q l so _ (sm.trans (Same.upd hl)) (sm.free hl) (by rw [ae,eG];rfl) (fun i=>by rw [hso.mem_iff];exact hov i) ((hsrt.and hnd).imp fun h=>by have:=h.1;have:=h.2;omega) fun i hi=>(hF.rc i (hso.mem_iff.mp hi)).2
variable {H:Hp} {n:Nat}
theorem Aj{d e:FB.Deed}(h:d.vs=e.vs):d=e:=GY.oi (by unfold GY.kM;rw [h])
theorem uZ(d:FB.Deed):∀x∈d.vs,(∃s,x=V.str s)\/∃i,x=V.int i:=by
 have ho:∀o:Opd,(∃s,o.v=V.str s)\/∃i,o.v=V.int i:=fun o=>by
  cases o with
  |box n=>exact .inl ⟨_,rfl⟩
  |word i=>exact .inr ⟨_,rfl⟩
 intro x hx
 cases d with
 |tell o=>
  rcases zq11.mp hx with rfl | hx
  ·exact .inl ⟨_,rfl⟩
  ·rw [zq9.mp hx];exact ho o
 |copy n o=>
  rcases zq11.mp hx with rfl | hx
  ·exact .inl ⟨_,rfl⟩
  rcases zq11.mp hx with rfl | hx
  ·exact .inl ⟨_,rfl⟩
  ·rw [zq9.mp hx];exact ho o
 |op k n o p=>
  rcases zq11.mp hx with rfl | hx
  ·exact .inl ⟨_,rfl⟩
  rcases zq11.mp hx with rfl | hx
  ·exact .inl ⟨_,rfl⟩
  rcases zq11.mp hx with rfl | hx
  ·exact ho o
  ·rw [zq9.mp hx];exact ho p
theorem Bs{K:W.Frag}{x y:V}(hx:(∃s,x=V.str s)\/∃i,x=V.int i)(hy:(∃s,y=V.str s)\/∃i,y=V.int i):Dq K H n x y (decide (x=y)):=by
 rcases hx with ⟨s,rfl⟩ | ⟨i,rfl⟩<;>rcases hy with ⟨r,rfl⟩ | ⟨j,rfl⟩
 ·have e:decide (V.str s=V.str r)=eqV (.str s) (.str r):=by show decide (V.str s=V.str r)=(s==r);rw [eh,eo,zq57];exact ⟨fun z=>by injection z,fun z=>by rw [z]⟩
  rw [e];exact .flat rfl rfl
 ·rw [bh (by intro z;cases z)];exact .flat (x:=.str s) (y:=.int j) rfl rfl
 ·rw [bh (by intro z;cases z)];exact .flat (x:=.int i) (y:=.str r) rfl rfl
 ·have e:decide (V.int i=V.int j)=eqV (.int i) (.int j):=by show decide (V.int i=V.int j)=(i==j);rw [eh,eo,zq57];exact ⟨fun z=>by injection z,fun z=>by rw [z]⟩
  rw [e];exact .flat rfl rfl
theorem B8{xs ys:List V}:((List.range (min xs.length ys.length)).all (fun j=>decide (xs[j]?=ys[j]?))&&xs.length==ys.length)=decide (xs=ys):=by
 rw [eh,ee,zq48,eo,zq57]
 constructor
 ·rintro ⟨h,hl⟩;apply nz;intro j
  by_cases hj:j<xs.length
  ·exact of_decide_eq_true (h j (zq33.mpr Jlk))
  ·rw [gf Jlk,gf Jlk]
 ·rintro rfl;exact ⟨fun j _=>bC rfl,rfl⟩
theorem Br{K:W.Frag}(hF:GB.SqF K H){q q':Addr}{d d':FB.Deed}(h:SqT K H q d.vs)(h':SqT K H q' d'.vs):Dq K H (n+1) (.ref q) (.ref q') (decide (d=d')):=by
 by_cases e:q=q'
 ·subst e;rw [bC (Aj (hF _ _ _ h h'))];exact .same
 ·have z:=Dq.tups (n:=n) (fun j=>decide (d.vs[j]?=d'.vs[j]?)) e h h' fun j x y hx hy=>by
   have e2:decide (d.vs[j]?=d'.vs[j]?)=decide (x=y):=by rw [hx,hy,eh,eo,eo];exact ⟨fun z=>Option.some.inj z,fun z=>by rw [z]⟩
   rw [e2];exact Bs (uZ d x (bg hx)) (uZ d' y (bg hy))
  rw [B8] at z;have e3:decide (d.vs=d'.vs)=decide (d=d'):=by rw [eh,eo,eo];exact ⟨Aj,fun z=>by rw [z]⟩
  rw [e3] at z;exact z
theorem pE{K:W.Frag}(hF:GB.SqF K H){a b:Addr}{vs us:List V}{ds es:List FB.Deed}(ha:SqL K H a vs)(hb:SqL K H b us)(hd:Paired (DeedV1 K H) vs ds)(he:Paired (DeedV1 K H) us es):Rq K H (n+1) (.ref a) (.ref b) (decide (ds=es)):=by
 have l1:=hd.length;have l2:=he.length
 by_cases hl:ds.length=es.length
 ·have z:=Rq.lists (n:=n+1) (fun j=>decide (ds[j]?=es[j]?)) ha hb Jlk fun j x y hx hy=>by
   obtain ⟨d,hdj,q,rfl,hq,_⟩:=L2.Paired.get hd hx;obtain ⟨e,hej,r,rfl,hr,_⟩:=L2.Paired.get he hy;have e2:decide (ds[j]?=es[j]?)=decide (d=e):=by rw [hdj,hej,eh,eo,eo];exact ⟨fun z=>Option.some.inj z,fun z=>by rw [z]⟩
   rw [e2];exact Br hF hq hr
  have ez:((List.range vs.length).all fun j=>decide (ds[j]?=es[j]?))=decide (ds=es):=by
   rw [l1,eh,zq48,eo]
   constructor
   ·intro h;apply nz;intro j
    by_cases hj:j<ds.length
    ·exact of_decide_eq_true (h j (zq33.mpr hj))
    ·rw [gf Jlk,gf Jlk]
   ·rintro rfl j _;exact bC rfl
  rw [ez] at z;exact z
 ·rw [bh (fun e=>hl (congrArg List.length e))];exact .lens ha hb Jlk
theorem lD:∀{bss:List (List Nat)},(∀b∈bss,b≠[])->bss.length<=bss.flatten.length
 | [],_=>bT _
 |b::r,h=>by have h1:=lD (bss:=r) fun c hc=>h c (b7 _ hc);have h2:=zq62.mpr (h b (cN ..));rw [AT,zq8,d5];omega
theorem uc{us:List Int}{b:FZ.Blk}{bs:List (List FB.Deed)}(h:fm us b bs):bs.length<=FZ.wt b/\bs≠[]:=by
 obtain ⟨bss,hg,rfl⟩:=h;refine ⟨?_,kT⟩;have h1:=lD hg.ne;have h2:=hg.perm.length_eq;rw [cX] at h2;have l1:(aV b.ds bss).length=bss.length:=by unfold aV;rw [zq4]
 obtain ⟨ds,ed⟩:=b;dsimp only at h1 h2 l1;unfold eD;dsimp only
 cases ds with
 |nil=>
  have h3:bss.length=0:=by rw [List.length_nil] at h2;omega
  have h4:aV [] bss=[]:=zq66.mp (by rw [l1];exact h3);rw [h4];exact zq6 1
 |cons d ds=>
  have hc:(aV (d::ds) bss).isEmpty=false:=by
   cases e:aV (d::ds) bss with
   |nil=>
    rw [e] at l1;have h5:bss=[]:=zq66.mp l1.symm;rw [h5] at h2;simp at h2
   |cons=>rfl
  rw [hc,Au]
  cases ed with
  |stop=>rw [show iS (aV (d::ds) bss) .stop=false from rfl,zq1 bz];show _<=(d::ds).length;omega
  |go i=>rw [show iS (aV (d::ds) bss) (.go i)=false from rfl,zq1 bz];show _<=(d::ds).length;omega
  |choose n i j=>
   show _<=(d::ds).length+1
   split
   ·rw [zq8,bV];omega
   ·omega
theorem A1{us:List Int}:∀{B:List FZ.Blk} {bbs:List (List (List FB.Deed))},Paired (fm us) B bbs->eN bbs<=FZ.sW B
 |_,_,.nil=>zq6 _
 |_,_,.cons h t=>by have h1:=(uc h).1;have h2:=A1 t;unfold eN FZ.sW at *;rw [cm,cm,sO,sO];omega
theorem CF{us:List Int}{ss:List Stm}{bbs:List (List (List FB.Deed))}(h:Paired (fm us) (FZ.aY ss) bbs):(gE (FZ.aY ss) bbs).length<=aS ss+2:=by
 have hl:=h.length;have hne:∀bs∈bbs,bs≠[]:=fun bs hb=>by obtain ⟨i,hi⟩:=zq55.mp hb;obtain ⟨b,_,hL⟩:=L2.Paired.getR h hi;exact (uc hL).2
 have h1:=fJ hl hne (FZ.aY ss).length (zq6 _);have h2:=A1 h;have h3:=FZ.vx ss;have h4:=jk (bbs:=bbs) (FZ.aY ss).length;rw [fI hl] at h1;omega
namespace HB
open PySem PySem.W L2 FB FZ GX GY
variable {cs so:List Nat} {i j:Nat}
def tgs(F:List Blk)(i:Nat):List Nat:=(F.getD i ⟨[],.stop⟩).ed.tg
theorem fc{F:List Blk}{b:Blk}(h:F[i]?=some b):tgs F i=b.ed.tg:=by unfold tgs;rw [cn,h];rfl
def Hit(F:List Blk)(U:List (Nat×Nat))(i j:Nat):Prop:=∃(k p q:Nat),(tgs F i)[k]?=some p/\(tgs F j)[k]?=some q/\(p,q)∈U
structure Snd(F:List Blk)(so cs:List Nat)(U:List (Nat×Nat)):Prop where
 nd:U.Nodup
 inn:∀p∈U,p.1∈so/\p.2∈so/\¬cs[p.1]?=cs[p.2]?
theorem JX{F:List Blk}:Snd F so cs []:=⟨Jll,fun p hp=>by cases hp⟩
theorem Snd.add{F:List Blk}{U:List (Nat×Nat)}(h:Snd F so cs U)(hi:i∈so)(hj:j∈so)(hd:¬cs[i]?=cs[j]?)(hn:¬(i,j)∈U):Snd F so cs (U++[(i,j)]):=by
 refine ⟨?_,fun p hp=>?_⟩
 ·rw [zq65];exact zAB h.nd Jll (fun a ha b hb e=>hn (by rw [<- zq9.mp hb,<- e];exact ha))
 ·rcases zq20.mp hp with z | z
  ·exact h.inn p z
  ·rw [zq9.mp z];exact zAB hi hj hd
theorem EF{F:List Blk}{U:List (Nat×Nat)}(hP:Prt F cs)(hs:nxt F cs=cs)(hL:Led F)(h:Snd F so cs U)(hi:i<F.length)(hj:j<F.length)(hit:Hit F U i j):¬cs[i]?=cs[j]?:=fun e=>by
 obtain ⟨k,p,q,hp,hq,hU⟩:=hit;have ei:F[i]?=some F[i]:=zq5 hi;have ej:F[j]?=some F[j]:=zq5 hj;rw [fc ei] at hp;rw [fc ej] at hq;have st:=congrArg (fun l:List Nat=>l[k]?) (zX hP hs ei ej e);have st2:(F[i].ed.tg.map fun i=>cs.getD i 0)[k]?=(F[j].ed.tg.map fun i=>cs.getD i 0)[k]?:=st;rw [bq,bq,hp,hq] at st2;have lp:=hL _ (dH hi) p (bg hp);have lq:=hL _ (dH hj) q (bg hq);refine (h.inn _ hU).2.2 ?_;have cat:∀x,x<F.length->cs[x]?=some (cs.getD x 0):=fun x hx=>by rw [cn,zq5 (by rw [hP.len];exact hx)];rfl
 show cs[p]?=cs[q]?;rw [cat p lp,cat q lq];exact st2
theorem Bb{F:List Blk}{a b:Blk}(hP:Prt F cs)(ha:F[i]?=some a)(hb:F[j]?=some b)(h:¬mk0 a=mk0 b):¬cs[i]?=cs[j]?:=fun e=>h (hP.look i j a b ha hb e)
theorem Eu{F:List Blk}{U:List (Nat×Nat)}(hP:Prt F cs)(h:Snd F so cs U)(hso:∀i∈so,i<F.length)(hcl:∀i∈so,∀j∈tgs F i,j∈so)
 (hb:∀(i j:Nat)(a b:Blk),i∈so->j∈so->F[i]?=some a->F[j]?=some b->¬mk0 a=mk0 b->(i,j)∈U) (hc:∀i j,i∈so->j∈so->¬(i,j)∈U->¬Hit F U i j):∀i j,i∈so->j∈so->((i,j)∈U↔¬cs[i]?=cs[j]?):=fun i j hi hj=>by
 constructor
 ·intro z;exact (h.inn _ z).2.2
 ·intro hne;refine kG fun hn=>hne ?_;have hB:Bis F fun i j=>i∈so/\j∈so/\¬(i,j)∈U:=by rintro i j a b ha hb2 ⟨hi,hj,hn⟩;refine ⟨kG fun hm=>hn (hb i j a b hi hj ha hb2 hm),fun k p q hp hq=>zAB (hcl i hi p (by rw [fc ha];exact bg hp)) (hcl j hj q (by rw [fc hb2];exact bg hq)) (fun hU=>hc i j hi hj hn (zAN k p q (by rw [fc ha];exact hp) (by rw [fc hb2];exact hq) hU))⟩
  exact hP.most _ hB i j _ _ (zq5 (hso i hi)) (zq5 (hso j hj)) (zAB hi hj hn)
def Eo(so:List Nat):List (Nat×Nat):=so.flatMap fun i=>so.map fun j=>(i,j)
theorem jF{α:Type}{f:Nat->List α}{n:Nat}:∀{l:List Nat},(∀x∈l,(f x).length=n)->(l.flatMap f).length=l.length * n
 | [],_=>by simp
 |x::l,h=>by rw [List.flatMap_cons,zq8,h x (cN ..),jF fun y hy=>h y (b7 _ hy),d5,Nat.succ_mul];omega
theorem Snd.len{F:List Blk}{U:List (Nat×Nat)}(h:Snd F so cs U):U.length<=so.length * so.length:=by
 have z:=GD.iA (M:=Eo so) h.nd fun p hp=>by obtain ⟨h1,h2,_⟩:=h.inn p hp;unfold Eo;rw [zq103];exact zn p.1 h1 (zq43.mpr (zn p.2 h2 rfl))
 unfold Eo at z;rw [jF (n:=so.length) fun x _=>by rw [zq4]] at z;exact z
end HB
variable {H:Hp} {Q:VK} {cs ss:List Nat} {d:Addr} {i j x y:Nat}
def eL(p:Nat×Nat):List Key:=[.inl (p.1:Int),.inl (p.2:Int)]
def cZ(U:List (Nat×Nat)):List (List Key×V):=U.map fun p=>(eL p,V.bl true)
theorem wm{p q:Nat×Nat}(h:eL p=eL q):p=q:=by unfold eL at h;injection h with h1 h2;injection h2 with h2 _;injection h1 with h1;injection h2 with h2;exact Prod.ext (Int.ofNat.inj h1) (Int.ofNat.inj h2)
theorem jm{p:Nat×Nat}:∀{U:List (Nat×Nat)},ce (cZ U) (eL p)=if p∈U then some (.bl true) else none
 | []=>by rw [zq1 Jll];rfl
 |q::U=>by
  have ih:=jm (p:=p) (U:=U);unfold cZ at ih ⊢;rw [cm]
  by_cases e:q=p
  ·rw [dc (by show eL q=eL p;rw [e]),zq2 (by rw [e];exact cN ..)]
  ·rw [cT (by show ¬eL q=eL p;exact fun z=>e (wm z)),ih]
   by_cases h:p∈U
   ·rw [zq2 h,zq2 (b7 _ h)]
   ·rw [zq1 h,zq1 (fun z=>(zq11.mp z).elim (fun z=>e z.symm) h)]
theorem CH{p:Nat×Nat}{U:List (Nat×Nat)}(h:¬p∈U):fv (cZ U) (eL p) (.bl true)=cZ (U++[p]):=by unfold fv;rw [fK,jm,zq1 h,zq1 Jkm];unfold cZ;rw [cq];rfl
theorem qe{p:Nat×Nat}{U:List (Nat×Nat)}(h:p∈U):fv (cZ U) (eL p) (.bl true)=cZ U:=by
 unfold fv;rw [fK,jm,zq2 h,zq2 Jlm];unfold cZ;rw [eG];refine qC fun q _=>?_;dsimp only [Function.comp]
 split<;>rfl
def gJ(U:List (Nat×Nat))(p:Nat×Nat):List (Nat×Nat):=if p∈U then U else U++[p]
theorem B6{U:List (Nat×Nat)}{p:Nat×Nat}:p∈gJ U p:=by unfold gJ;split<;>simp_all
theorem nD{U:List (Nat×Nat)}{p q:Nat×Nat}(h:q∈U):q∈gJ U p:=by
 unfold gJ
 split
 ·exact h
 ·exact fk _ h
theorem uF{F:List FZ.Blk}{so:List Nat}{U:List (Nat×Nat)}(h:HB.Snd F so cs U)(hi:i∈so)(hj:j∈so)(hd:¬cs[i]?=cs[j]?):HB.Snd F so cs (gJ U (i,j)):=by
 unfold gJ
 split
 ·exact h
 ·exact h.add hi hj hd (by assumption)
theorem um{H0 H1:Hp}{p:Addr}{U:List (Nat×Nat)}(s:Same H0 H1)(hd0:H0 d=none)(hd:H1 d=some (.dT (cZ U)))(hp:H1 p=none)(hl:U.length<sizeLine):∃H4,DPut (L2.upd H1 p (.tup [.int i,.int j])) d (.ref p) (.bl true) H4/\Same H0 H4/\H4 d=some (.dT (cZ (gJ U (i,j))))/\∀c o,H1 c=some o->c≠d->H4 c=some o:=by
 have s1:=Same.upd (o:=.tup [.int i,.int j]) hp;refine zAG _ (DPut.t (k:=eL (i,j)) (s1 _ _ hd) ae (by unfold cZ;rw [zq4];exact hl)) ((s.trans s1).updM hd0) ?_ fun c o hc n=>(ao n).trans (s1 _ _ hc);rw [ae];unfold gJ
 split
 ·rw [qe (by assumption)]
 ·rw [CH (by assumption)]
structure Fst(F:List FZ.Blk)(ss cs:List Nat)(x y:Nat)(U:List (Nat×Nat)):Prop where
 snd:HB.Snd F ss cs U
 all:∀(m k i j:Nat)(a b:FZ.Blk),(m<x\/(m=x/\k<y))->ss[m]?=some i->ss[k]?=some j->F[i]?=some a->F[j]?=some b->¬GY.mk0 a=GY.mk0 b->(i,j)∈U
theorem Fst.no{F:List FZ.Blk}{U:List (Nat×Nat)}{a b:FZ.Blk}(h:Fst F ss cs x y U)(hi:ss[x]?=some i)(hj:ss[y]?=some j)(ha:F[i]?=some a)(hb:F[j]?=some b)(e:GY.mk0 a=GY.mk0 b):Fst F ss cs x (y+1) U:=by
 refine ⟨h.snd,fun m k i2 j2 a2 b2 hm hi2 hj2 ha2 hb2 hn=>?_⟩
 by_cases z:m<x\/(m=x/\k<y)
 ·exact h.all m k i2 j2 a2 b2 z hi2 hj2 ha2 hb2 hn
 ·obtain ⟨rfl,rfl⟩:m=x/\k=y:=by omega
  rw [hi] at hi2;cases hi2;rw [hj] at hj2;cases hj2;rw [ha] at ha2;cases ha2;rw [hb] at hb2;cases hb2;exact absurd e hn
theorem Fst.yes{F:List FZ.Blk}{U:List (Nat×Nat)}{a b:FZ.Blk}(h:Fst F ss cs x y U)(hP:GY.Prt F cs)(hi:ss[x]?=some i)(hj:ss[y]?=some j)(ha:F[i]?=some a)(hb:F[j]?=some b)(e:¬GY.mk0 a=GY.mk0 b):Fst F ss cs x (y+1) (gJ U (i,j)):=by
 refine ⟨uF h.snd (bg hi) (bg hj) (HB.Bb hP ha hb e),fun m k i2 j2 a2 b2 hm hi2 hj2 ha2 hb2 hn=>?_⟩
 by_cases z:m<x\/(m=x/\k<y)
 ·exact nD (h.all m k i2 j2 a2 b2 z hi2 hj2 ha2 hb2 hn)
 ·obtain ⟨rfl,rfl⟩:m=x/\k=y:=by omega
  rw [hi] at hi2;cases hi2;rw [hj] at hj2;cases hj2;exact B6
theorem Fst.row{F:List FZ.Blk}{U:List (Nat×Nat)}(h:Fst F ss cs x ss.length U):Fst F ss cs (x+1) 0 U:=⟨h.snd,fun m k i j a b hm hi hj=>h.all m k i j a b (by have:=(zq7.mp hj).1;omega) hi hj⟩
theorem zK{F:List FZ.Blk}{U:List (Nat×Nat)}(h:HB.Snd F ss cs U)(hs:ss.length<64):U.length<sizeLine:=by have z:=h.len;have:=Nat.mul_le_mul (show ss.length<=63 by omega) (show ss.length<=63 by omega);rw [b9];omega
def edK:FZ.Ed->Str
 | .stop=>"stop"
 | .go _=>"go"
 | .choose _ _ _=>"choose"
def edN:FZ.Ed->Str
 | .choose n _ _=>n
 |_=>""
theorem vJ{e:FZ.Ed}:atI (d8 e) 0=some (.str (edK e)):=by cases e<;>rfl
theorem Bt{e:FZ.Ed}(h:edK e="choose"):atI (d8 e) 1=some (.str (edN e)):=by
 cases e with
 |stop=>exact absurd h Jkk
 |go i=>exact absurd h (by show ¬(Str.ofString "go")=Str.ofString "choose";decide +kernel)
 |choose n i j=>rfl
theorem look_iff{e f:FZ.Ed}:GY.dm e=GY.dm f↔edK e=edK f/\(edK e="choose"->edN e=edN f):=by
 have h1:¬(Str.ofString "go")=Str.ofString "choose":=by decide +kernel
 have h2:¬(Str.ofString "stop")=Str.ofString "choose":=by decide +kernel
 have h3:¬(Str.ofString "stop")=Str.ofString "go":=by decide +kernel
 cases e<;>cases f<;>simp only [GY.dm,edK,edN,W.WData.tuple.injEq,List.cons.injEq,W.WData.str.injEq,and_true,true_and,h1,h2,h3,Ne.symm h1,Ne.symm h2,Ne.symm h3,false_and,false_implies,forall_const,and_self,reduceCtorEq,and_false]
def Bas(F:List FZ.Blk)(ss:List Nat)(U:List (Nat×Nat)):Prop:=∀(i j:Nat)(a b:FZ.Blk),i∈ss->j∈ss->F[i]?=some a->F[j]?=some b->¬GY.mk0 a=GY.mk0 b->(i,j)∈U
structure Psd(F:List FZ.Blk)(ss cs:List Nat)(U0 U:List (Nat×Nat))(tn:Bool):Prop where
 snd:HB.Snd F ss cs U
 bas:Bas F ss U
 old:tn=false->U=U0
 new:tn=true->U0.length<U.length
theorem xo{U:List (Nat×Nat)}{p:Nat×Nat}:U.length<=(gJ U p).length:=by unfold gJ;split<;>simp
theorem xp{U:List (Nat×Nat)}{p:Nat×Nat}(h:¬p∈U):(gJ U p).length=U.length+1:=by unfold gJ;rw [zq1 h];simp
theorem Psd.add{F:List FZ.Blk}{U0 U:List (Nat×Nat)}{tn:Bool}(h:Psd F ss cs U0 U tn)(hi:i∈ss)(hj:j∈ss)(hn:¬cs[i]?=cs[j]?)(ho:tn=false->¬(i,j)∈U0):Psd F ss cs U0 (gJ U (i,j)) true:=by
 refine ⟨uF h.snd hi hj hn,fun i2 j2 a b h1 h2 h3 h4 h5=>nD (h.bas i2 j2 a b h1 h2 h3 h4 h5),fun z=>(by cases z),fun _=>?_⟩
 cases tn with
 |false=>
  have e:=h.old rfl;subst e;rw [xp (ho rfl)];omega
 |true=>exact fh (h.new rfl) xo
def Jq:Option HO->Nat
 |some (.dT kvs)=>kvs.length
 |_=>0
def tnO(σ:L2.St):Nat:=if (σ[5]?).join=some (.bl true) then 1 else 0
def muP(n:Nat)(d:Addr)(σ:L2.St)(H:Hp):Nat:=2 * (n * n-Jq (H d))+tnO σ
theorem yh{n:Nat}{σ:L2.St}{U:List (Nat×Nat)}(h:H d=some (.dT (cZ U))):muP n d σ H=2 * (n * n-U.length)+tnO σ:=by unfold muP;rw [h];show 2 * (n * n-(cZ U).length)+_=_;unfold cZ;rw [zq4]
def Don(F:List FZ.Blk)(ss:List Nat)(U:List (Nat×Nat))(x y:Nat):Prop:=∀(m k i j:Nat),(m<x\/(m=x/\k<y))->ss[m]?=some i->ss[k]?=some j->¬(i,j)∈U->¬HB.Hit F U i j
theorem Don.next{F:List FZ.Blk}{U:List (Nat×Nat)}(h:Don F ss U x y)(hi:ss[x]?=some i)(hj:ss[y]?=some j)(hn:¬(i,j)∈U->¬HB.Hit F U i j):Don F ss U x (y+1):=fun m k i2 j2 hm hi2 hj2 hu=>by
 by_cases z:m<x\/(m=x/\k<y)
 ·exact h m k i2 j2 z hi2 hj2 hu
 ·obtain ⟨rfl,rfl⟩:m=x/\k=y:=by omega
  rw [hi] at hi2;cases hi2;rw [hj] at hj2;cases hj2;exact hn hu
theorem Don.row{F:List FZ.Blk}{U:List (Nat×Nat)}(h:Don F ss U x ss.length):Don F ss U (x+1) 0:=fun m k i j hm hi hj=>h m k i j (by have:=(zq7.mp hj).1;omega) hi hj
theorem Don.all{F:List FZ.Blk}{U:List (Nat×Nat)}(h:Don F ss U ss.length 0):∀i j,i∈ss->j∈ss->¬(i,j)∈U->¬HB.Hit F U i j:=fun i j hi hj=>by obtain ⟨m,hm⟩:=zq55.mp hi;obtain ⟨k,hk⟩:=zq55.mp hj;exact h m k i j (.inl (zq7.mp hm).1) hm hk
def DonK(F:List FZ.Blk)(U:List (Nat×Nat))(i j k:Nat):Prop:=∀(m p q:Nat),m<k->(HB.tgs F i)[m]?=some p->(HB.tgs F j)[m]?=some q->¬(p,q)∈U
theorem DonK.next{F:List FZ.Blk}{U:List (Nat×Nat)}{k p q:Nat}(h:DonK F U i j k)(hp:(HB.tgs F i)[k]?=some p)(hq:(HB.tgs F j)[k]?=some q)(hn:¬(p,q)∈U):DonK F U i j (k+1):=fun m p2 q2 hm hp2 hq2=>by
 by_cases z:m<k
 ·exact h m p2 q2 z hp2 hq2
 ·obtain rfl:m=k:=by omega
  rw [hp] at hp2;cases hp2;rw [hq] at hq2;cases hq2;exact hn
theorem DonK.all{F:List FZ.Blk}{U:List (Nat×Nat)}(h:DonK F U i j (HB.tgs F i).length):¬HB.Hit F U i j:=fun ⟨k,p,q,hp,hq,hu⟩=>h k p q (zq7.mp hp).1 hp hq hu
theorem gD{ty td:TE}{σ:L2.St}:J0 ty td σ H Q=ty σ H fun y H1=>td σ H1 fun x H2=>∃a o,x=.ref a/\DGet H2 a y o/\Q (.bl o.isSome) H2:=rfl
theorem f9{ty td:TE}{σ:L2.St}:jl ty td σ H Q=ty σ H fun y H1=>td σ H1 fun x H2=>∃a o,x=.ref a/\DGet H2 a y o/\Q (.bl (! o.isSome)) H2:=rfl
theorem n9{H1:Hp}{p:Addr}{U:List (Nat×Nat)}(hd:H1 d=some (.dT (cZ U)))(hp:H1 p=none):DGet (L2.upd H1 p (.tup [.int i,.int j])) d (.ref p) (if (i,j)∈U then some (.bl true) else none):=by rw [<- jm (U:=U)];exact DGet.t (k:=eL (i,j)) ((Same.upd hp) _ _ hd) ae
def sY(K:W.Frag)(tb so:Addr)(H:Hp)(Q:VK):Prop:=∃(F:List FZ.Blk)(ss cs:List Nat),TabV K H tb F/\GY.Led F/\F.length<64/\H so=some (.lst (nlN ss))/\ss.length<64/\(∀i∈ss,i<F.length)/\(∀i∈ss,∀j∈HB.tgs F i,j∈ss)/\GY.Prt F cs/\GY.nxt F cs=cs/\
 ∀p U H',Same H H'->H p=none->H' p=some (.dT (cZ U))->(∀i j,i∈ss->j∈ss->((i,j)∈U↔¬cs[i]?=cs[j]?))->Q (.ref p) H'
def uO(K:W.Frag):Sp:=fun vs H Q _=>∃tb so:Addr,vs=[.ref tb,.ref so]/\sY K tb so H Q
theorem Gb{K:W.Frag}{tb so:Addr}{E:XK}:uO K [.ref tb,.ref so] H Q E=sY K tb so H Q:=propext ⟨by rintro ⟨_,_,e,q⟩;cases e;exact q,fun q=>zAE _ _ rfl q⟩
theorem BS(T:Txt K mg t):FnOk P w K mg base CX0 2 t.f_144 t.e_144 ["_law_table","_law_some"] (uO K):=by
 have G_142:=@mN P w K mg base t T;refine T.d_144.F.ok sc_144 ∅ ?_;rintro cdv A outer s H vs Q E hr ⟨tb,so,rfl,F,ss,cs,hTV,hL,h64,hso,hs64,hsF,hsc,hP,hst,q⟩;have hu:=lE hr;refine ⟨_,
   (XSs.h
   (ai
    (aq (i:=2) sc_144.nd rfl ll md)
   (bo
    (b8 PassesOwn.never rfl (aN (yqv 1 vl)) (av (i:=3) sc_144.nd rfl ll)
     (aj
      (b8 PassesOwn.never rfl (aN (yqv 1 vl)) (av (i:=4) sc_144.nd rfl ll)
       (aj
        (aL (bR (dh (ap (GB.yC (n:=1) (jI Jkm hr)) (ak ar (ak az (yqv 0 vl) (yqv 3 vl)) af) (ak ar (ak az (yqv 0 vl) (yqv 4 vl)) af) (aA _)) (d7 (ap iT (ak ar (ak ar (ak az (yqv 0 vl) (yqv 3 vl)) af) af) (ak ar (ak ar (ak az (yqv 0 vl) (yqv 4 vl)) af) af) (aA _)))))
         (aj
          (ig hu (yqv 2 vl) (aE (aa (yqv 3 vl) (aa (yqv 4 vl) ac))) c5 rfl))
         (aj
          (aL (bR (cC (ap bu (ak ar (ak ar (ak az (yqv 0 vl) (yqv 3 vl)) af) af) aH (aA _)) (ck (ap iT (ak ar (ak ar (ak az (yqv 0 vl) (yqv 3 vl)) af) af) (ak ar (ak ar (ak az (yqv 0 vl) (yqv 4 vl)) af) af) (aA _)))))
           (aj
            (ig hu (yqv 2 vl) (aE (aa (yqv 3 vl) (aa (yqv 4 vl) ac))) c5 rfl))
           aC)))))))
   (ai
    (aq (i:=5) sc_144.nd rfl ll c5)
   (bo
    (dJ PassesOwn.never (cv (yqv 5 vl))
     (ai
      (aq (i:=5) sc_144.nd rfl ll c5)
     (aj
      (b8 PassesOwn.never rfl (aN (yqv 1 vl)) (av (i:=3) sc_144.nd rfl ll)
       (aj
        (b8 PassesOwn.never rfl (aN (yqv 1 vl)) (av (i:=4) sc_144.nd rfl ll)
         (aj
          (aL (jp (gF hu (aE (aa (yqv 3 vl) (aa (yqv 4 vl) ac))) (yqv 2 vl)))
           (aj
            (b8 PassesOwn.never rfl (nj T.z_zip (aa (au T.d_142 G_142 hr.m (aa (ak ar (ak az (yqv 0 vl) (yqv 3 vl)) af) ac) gl) (aa (au T.d_142 G_142 hr.m (aa (ak ar (ak az (yqv 0 vl) (yqv 4 vl)) af) ac) gl) ac)) gl) (dG rfl (aT (av (i:=6) sc_144.nd rfl ll) (aT (av (i:=7) sc_144.nd rfl ll) cU)))
             (aj
              (aL (jp (v7 hu (aE (aa (yqv 6 vl) (aa (yqv 7 vl) ac))) (yqv 2 vl)))
               (ai
                (ig hu (yqv 2 vl) (aE (aa (yqv 3 vl) (aa (yqv 4 vl) ac))) c5 rfl)
               (aj
                (aq (i:=5) sc_144.nd rfl ll c5)))
               aC))))
           aC))))))))
   (aj
    (aw (yqv 2 vl)))))))),?_⟩
 rw [show aP _ [V.ref tb,V.ref so]=[some (.ref tb),some (.ref so),none,none,none,none,none,none] from rfl];simp_arith! [];intro d hd;refine later ?_;simp_arith! [];refine ⟨fun σ H'=>Same H H'/\(∃U,H' d=some (.dT (cZ U))/\HB.Snd F ss cs U/\Bas F ss U)/\∃o3 o4,σ=[some (.ref tb),some (.ref so),some (.ref d),o3,o4,none,none,none],?_,?_⟩
 ·refine ⟨⟨_,SqL.of ((Same.upd hd) _ _ hso)⟩,?_⟩;refine cr (xs:=nlN ss) (fun x σ H'=>(Same H H'/\∃U,H' d=some (.dT (cZ U))/\Fst F ss cs x 0 U)/\∃o3 o4,σ=[some (.ref tb),some (.ref so),some (.ref d),o3,o4,none,none,none]) ⟨⟨Same.upd hd,[],ae,HB.JX,fun m k i j a b hm=>Jlk⟩,zAH _ _ rfl⟩ ?_ ?_ ?_
  ·rintro x σ H' _ ⟨⟨sm,_⟩,_⟩;exact SqL.of (sm _ _ hso)
  ·rintro x v σ H1 hv ⟨⟨sm,U,hU,hS⟩,o3,o4,rfl⟩;have hx:x<ss.length:=by have:=(zq7.mp hv).1;rw [aO] at this;exact this
   have hsx:ss[x]?=some ss[x]:=zq5 hx;rw [cc hsx] at hv
   cases hv
   generalize ss[x]=i at hsx ⊢;have hiF:=hsF i (bg hsx);have hbi:F[i]?=some F[i]:=zq5 hiF;simp_arith! [];refine ⟨⟨_,SqL.of (sm _ _ hso)⟩,?_⟩;refine cr (xs:=nlN ss) (fun y σ H'=>(Same H H'/\∃U,H' d=some (.dT (cZ U))/\Fst F ss cs x y U)/\∃o4,σ=[some (.ref tb),some (.ref so),some (.ref d),some (.int i),o4,none,none,none]) ⟨⟨sm,zn U hU hS⟩,_,rfl⟩ ?_ ?_ ?_
   ·rintro y σ H' _ ⟨⟨sm,_⟩,_⟩;exact SqL.of (sm _ _ hso)
   ·clear sm hU hS;rintro y v σ H1 hv ⟨⟨sm,U,hU,hS⟩,o4,rfl⟩;have hy:y<ss.length:=by have:=(zq7.mp hv).1;rw [aO] at this;exact this
    have hsy:ss[y]?=some ss[y]:=zq5 hy;rw [cc hsy] at hv
    cases hv
    generalize ss[y]=j at hsy ⊢;have hjF:=hsF j (bg hsy);have hbj:F[j]?=some F[j]:=zq5 hjF;generalize F[i]=bi at hbi;generalize F[j]=bj at hbj;obtain ⟨xs1,x1,hT1,hx1,q1,a1,e1,vs1,rfl,hq1,ha1,hds1,he1⟩:=(hTV.same sm).at hbi;obtain ⟨xs2,x2,hT2,hx2,q2,a2,e2,vs2,rfl,hq2,ha2,hds2,he2⟩:=(hTV.same sm).at hbj;rw [hT1] at hT2
    cases hT2
    have put:¬GY.mk0 bi=GY.mk0 bj->∀p,H1 p=none->∃H4,DPut (upd H1 p (.tup [.int i,.int j])) d (.ref p) (.bl true) H4/\(Same H H4/\∃U,H4 d=some (.dT (cZ U))/\Fst F ss cs x (y+1) U)/\∃o4,[some (V.ref tb),some (.ref so),some (.ref d),some (.int i),some (.int j),none,none,none]=[some (.ref tb),some (.ref so),some (.ref d),some (.int i),o4,none,none,none]:=fun hn p hp=>by obtain ⟨H4,h1,h2,h3,_⟩:=um (i:=i) (j:=j) sm hd hU hp (zK hS.snd hs64);exact zAC H4 h1 ⟨h2,zn _ h3 (hS.yes hP hsx hsy hbi hbj hn)⟩ ⟨_,rfl⟩
    have stay:GY.mk0 bi=GY.mk0 bj->(Same H H1/\∃U,H1 d=some (.dT (cZ U))/\Fst F ss cs x (y+1) U)/\∃o4,[some (V.ref tb),some (.ref so),some (.ref d),some (.int i),some (.int j),none,none,none]=[some (.ref tb),some (.ref so),some (.ref d),some (.int i),o4,none,none,none]:=fun he=>⟨⟨sm,zn U hU (hS.no hsx hsy hbi hbj he)⟩,_,rfl⟩
    rw [GY.mk0_iff] at put stay;simp_arith! [];refine zAA _ _ (SqL.of hT1) (aJ hx1) ?_;simp_arith! [];refine zAA _ _ hq1 rfl (zAA _ _ (SqL.of hT1) (aJ hx2) ?_);simp_arith! [];refine zAA _ _ hq2 rfl (zn (decide (bi.ds=bj.ds)) (fun hF=>pE hF (SqL.of ha1) (SqL.of ha2) hds1 hds2) (zn _ rfl ?_))
    by_cases eds:bi.ds=bj.ds
    ·rw [bC eds,zq1 Jkm];refine zAA _ _ (SqL.of hT1) (aJ hx1) ?_;simp_arith! [];refine zAA _ _ hq1 rfl ?_;simp_arith! [];refine zAA _ _ he1 vJ (zAA _ _ (SqL.of hT1) (aJ hx2) ?_);simp_arith! [];refine zAA _ _ hq2 rfl ?_;simp_arith! [];refine zAA _ _ he2 vJ ?_;simp_arith! []
     by_cases ek:edK bi.ed=edK bj.ed
     ·rw [bC ek,zq1 Jkm];refine zAA _ _ (SqL.of hT1) (aJ hx1) ?_;simp_arith! [];refine zAA _ _ hq1 rfl ?_;simp_arith! [];refine zAA _ _ he1 vJ ?_;simp_arith! []
      by_cases ec:edK bi.ed=Str.ofString "choose"
      ·rw [bC ec,zq2 rfl];refine zAA _ _ (SqL.of hT1) (aJ hx1) ?_;simp_arith! [];refine zAA _ _ hq1 rfl ?_;simp_arith! [];refine zAA _ _ he1 (Bt ec) (zAA _ _ (SqL.of hT1) (aJ hx2) ?_);simp_arith! [];refine zAA _ _ hq2 rfl ?_;simp_arith! [];refine zAA _ _ he2 (Bt (ek ▸ ec)) ?_;simp_arith! []
       by_cases en:edN bi.ed=edN bj.ed
       ·rw [bC en,zq1 Jkm];exact stay ⟨eds,look_iff.mpr ⟨ek,fun _=>en⟩⟩
       ·rw [bh en,zq2 Jlm];exact put fun z=>en ((look_iff.mp z.2).2 ec)
      ·rw [bh ec,zq1 Jkm];exact stay ⟨eds,look_iff.mpr ⟨ek,fun z=>absurd z ec⟩⟩
     ·rw [bh ek,zq2 Jlm];exact put fun z=>ek (look_iff.mp z.2).1
    ·rw [bh eds,zq2 Jlm,zq2 True.intro];exact put fun z=>eds z.1
   ·rintro σ H1 ⟨⟨sm,U,hU,hS⟩,o4,rfl⟩;rw [aO] at hS;exact ⟨⟨sm,zn U hU hS.row⟩,zAH _ _ rfl⟩
  ·rintro σ H1 ⟨⟨sm,U,hU,hS⟩,o3,o4,rfl⟩;rw [aO] at hS;exact zAB sm (zAC U hU hS.snd (fun i j a b hi hj ha hb hn=>by obtain ⟨m,hm⟩:=zq55.mp hi;obtain ⟨k,hk⟩:=zq55.mp hj;exact hS.all m k i j a b (.inl (zq7.mp hm).1) hm hk ha hb hn)) (zAH _ _ rfl)
 rintro σ H1 ⟨sm,⟨U,hU,hS,hB⟩,o3,o4,rfl⟩;refine later ?_;simp_arith! [];refine later ?_;simp_arith! [bK];refine ⟨fun σ H'=>Same H H'/\(∃U,H' d=some (.dT (cZ U))/\∀i j,i∈ss->j∈ss->((i,j)∈U↔¬cs[i]?=cs[j]?))/\∃o3 o4 o5 o6 o7,σ=[some (.ref tb),some (.ref so),some (.ref d),o3,o4,o5,o6,o7],?_,?_⟩
 ·refine eQ (fun σ H'=>Same H H'/\∃(U:List (Nat×Nat)) (tn:Bool) (o3 o4 o6 o7:Option V),H' d=some (.dT (cZ U))/\HB.Snd F ss cs U/\Bas F ss U/\(tn=false->Don F ss U ss.length 0)/\σ=[some (.ref tb),some (.ref so),some (.ref d),o3,o4,some (.bl tn),o6,o7]) (fun σ H'=>muP ss.length d σ H') ⟨sm,zAS U true _ _ _ _ (zAJ hU hS hB (fun z=>(by cases z)) rfl)⟩ ?_;clear sm hU hS hB;rintro σ H1 ⟨sm,U0,tn,o3,o4,o6,o7,hU0,hS0,hB0,hD0,rfl⟩;simp_arith! [bK]
  cases tn with
  |false=>
   rw [zq1 Jkm];exact zAB sm (zn U0 hU0 (HB.Eu hP hS0 hsF hsc hB0 (hD0 rfl).all)) (zAX _ _ _ _ _ rfl)
  |true=>
   rw [zq2 rfl];have hps0:Psd F ss cs U0 U0 false:=⟨hS0,hB0,fun _=>rfl,fun z=>(by cases z)⟩
   refine ⟨fun σ' H'=>Same H H'/\∃(U:List (Nat×Nat)) (tn:Bool) (o3 o4 o6 o7:Option V),H' d=some (.dT (cZ U))/\Psd F ss cs U0 U tn/\(tn=false->Don F ss U0 ss.length 0)/\σ'=[some (.ref tb),some (.ref so),some (.ref d),o3,o4,some (.bl tn),o6,o7],?_,later ?_⟩
   ·rintro σ' H' ⟨s2,U,tn,o3,o4,o6,o7,hU,hp,hD,rfl⟩;refine zAG _ ?_ rfl s2 (zAS U tn _ _ _ _ (zAJ hU hp.snd hp.bas (fun z=>(by rw [hp.old z];exact hD z)) rfl));rw [yh hU,yh hU0];have:=hp.snd.len
    cases tn with
    |false=>
     rw [hp.old rfl];show 2 * (ss.length * ss.length-U0.length)+0<2 * (ss.length * ss.length-U0.length)+1;omega
    |true=>have:=hp.new rfl;show 2 * (ss.length * ss.length-U.length)+1<2 * (ss.length * ss.length-U0.length)+1;omega
   simp_arith! [bK];refine ⟨⟨_,SqL.of (sm _ _ hso)⟩,?_⟩;refine cr (xs:=nlN ss) (fun x σ H'=>(Same H H'/\∃(U:List (Nat×Nat)) (tn:Bool),H' d=some (.dT (cZ U))/\Psd F ss cs U0 U tn/\(tn=false->Don F ss U0 x 0)/\∃o3 o4 o6 o7,σ=[some (.ref tb),some (.ref so),some (.ref d),o3,o4,some (.bl tn),o6,o7])) ⟨sm,zAD U0 false hU0 hps0 (fun _ m k i j hm=>Jlk) (zBD _ _ _ _ rfl)⟩ ?_ ?_ ?_
   ·rintro x σ H' _ ⟨sm,_⟩;exact SqL.of (sm _ _ hso)
   ·clear sm hU0 hS0 hB0 hD0 hps0;rintro x v σ H1 hv ⟨sm,U,tn,hU,hp,hD,o3,o4,o6,o7,rfl⟩;have hx:x<ss.length:=by have:=(zq7.mp hv).1;rw [aO] at this;exact this
    have hsx:ss[x]?=some ss[x]:=zq5 hx;rw [cc hsx] at hv
    cases hv
    generalize ss[x]=i at hsx ⊢;have hiS:=bg hsx;have hiF:=hsF i hiS;have hbi:F[i]?=some F[i]:=zq5 hiF;simp_arith! [bK];refine ⟨⟨_,SqL.of (sm _ _ hso)⟩,?_⟩;refine cr (xs:=nlN ss) (fun y σ H'=>(Same H H'/\∃(U:List (Nat×Nat)) (tn:Bool),H' d=some (.dT (cZ U))/\Psd F ss cs U0 U tn/\(tn=false->Don F ss U0 x y)/\∃o4 o6 o7,σ=[some (.ref tb),some (.ref so),some (.ref d),some (.int i),o4,some (.bl tn),o6,o7])) ⟨sm,zAD U tn hU hp hD (zAL _ _ _ rfl)⟩ ?_ ?_ ?_
    ·rintro y σ H' _ ⟨sm,_⟩;exact SqL.of (sm _ _ hso)
    ·clear sm hU hp hD;rintro y v σ H1 hv ⟨sm,U,tn,hU,hp,hD,o4,o6,o7,rfl⟩;have hy:y<ss.length:=by have:=(zq7.mp hv).1;rw [aO] at this;exact this
     have hsy:ss[y]?=some ss[y]:=zq5 hy;rw [cc hsy] at hv
     cases hv
     generalize ss[y]=j at hsy ⊢;have hjS:=bg hsy;have hjF:=hsF j hjS;have hbj:F[j]?=some F[j]:=zq5 hjF;simp_arith! [bK,gD,f9];intro kp hkp;refine zAA d _ rfl (n9 hU hkp) ?_;have s1:=sm.updN (o:=.tup [.int i,.int j]) hkp;have hU1:=(Same.upd (o:=.tup [.int i,.int j]) hkp) _ _ hU;generalize upd H1 kp (.tup [.int i,.int j])=H2 at s1 hU1 ⊢
     by_cases hin:(i,j)∈U
     ·rw [zq2 hin,zq1 Jkm];exact ⟨s1,zAD U tn hU1 hp (fun z=>(hD z).next hsx hsy fun h=>absurd (hp.old z ▸ hin) h) (zAL _ _ _ rfl)⟩
     ·rw [zq1 hin,zq2 Jlm];have hem:GY.mk0 F[i]=GY.mk0 F[j]:=kG fun z=>hin (hp.bas i j _ _ hiS hjS hbi hbj z);have htl:=GY.mH (GY.mk0_iff.mp hem).2;obtain ⟨xs1,x1,hT1,hx1,q1,a1,e1,vs1,rfl,hq1,ha1,hds1,he1⟩:=(hTV.same s1).at hbi;refine zAA _ _ (SqL.of hT1) (aJ hx1) ?_;simp_arith! [bK,gD,f9];refine zAA _ _ hq1 rfl ?_;rw [bK];refine zn (F[i].ed) he1 fun p2 H3 s3 hp2 hl2=>?_;have s13:=s1.trans s3;have hU3:=s3 _ _ hU1;obtain ⟨xs2,x2,hT2,hx2,q2,a2,e2,vs2,rfl,hq2,ha2,hds2,he2⟩:=(hTV.same s13).at hbj;refine zAA _ _ (SqL.of hT2) (aJ hx2) ?_;simp_arith! [bK,gD,f9];refine zAA _ _ hq2 rfl ?_;rw [bK];refine zn (F[j].ed) he2 fun p3 H4 s4 hp3 hl3=>?_;have s14:=s13.trans s4;have hU4:=s4 _ _ hU3;have hl2':=s4 _ _ hl2;have n2:p2≠d:=(am hU1 hp2).symm;have n3:p3≠d:=(am hU3 hp3).symm;have ti:HB.tgs F i=F[i].ed.tg:=HB.fc hbi;have tj:HB.tgs F j=F[j].ed.tg:=HB.fc hbj;rw [<- ti] at hl2' htl;rw [<- tj] at hl3 htl;refine zAD p2 p3 rfl ⟨_,SqL.of hl2'⟩ ⟨_,SqL.of hl3⟩ ?_;refine rf (xs:=nlN (HB.tgs F i)) (ys:=nlN (HB.tgs F j)) (by rw [aO,aO];exact htl) (fun k σ H'=>(Same H H'/\H' p2=some (.lst (nlN (HB.tgs F i)))/\H' p3=some (.lst (nlN (HB.tgs F j)))/\∃(U:List (Nat×Nat)) (tn:Bool),H' d=some (.dT (cZ U))/\Psd F ss cs U0 U tn/\(tn=false->Don F ss U0 x y/\¬(i,j)∈U0/\DonK F U0 i j k)/\∃o6 o7,σ=[some (.ref tb),some (.ref so),some (.ref d),some (.int i),some (.int j),some (.bl tn),o6,o7])) (zAF s14 hl2' hl3 (zAD U tn hU4 hp (fun z=>zAB (hD z) (hp.old z ▸ hin) (fun m p q hm=>Jlk)) (zAH _ _ rfl))) ?_ ?_ ?_
      ·rintro k σ H' _ ⟨_,h2,h3,_⟩;exact ⟨SqL.of h2,SqL.of h3⟩
      ·clear hU4 s14 hU3 hU1 s1 s13 hp hD hin hU sm hl2' hl3;rintro k u v σ H5 pp hu hv hpp ⟨sm,hl2,hl3,U,tn,hU,hp,hD,o6,o7,rfl⟩;have hk:k<(HB.tgs F i).length:=by have:=(zq7.mp hu).1;rw [aO] at this;exact this
       have hgi:(HB.tgs F i)[k]?=some (HB.tgs F i)[k]:=zq5 hk;have hgj:(HB.tgs F j)[k]?=some (HB.tgs F j)[k]:=zq5 Jlk;rw [cc hgi] at hu;rw [cc hgj] at hv
       cases hu
       cases hv
       generalize (HB.tgs F i)[k]=gi at hgi ⊢;generalize (HB.tgs F j)[k]=gj at hgj ⊢;simp_arith! [gD,f9];have s6:=sm.updN (o:=.tup [.int gi,.int gj]) hpp;have sx:=Same.upd (o:=.tup [.int gi,.int gj]) hpp;refine zAC _ (SqT.of ae) rfl ?_;have hU6:=sx _ _ hU;have hl6:=sx _ _ hl2;have hl7:=sx _ _ hl3;generalize upd H5 pp (.tup [V.int gi,V.int gj])=H6 at s6 hU6 hl6 hl7 ⊢;simp_arith! [gD,f9];clear sx hU sm hl2 hl3;intro kp hkp;refine zAA d _ rfl (n9 hU6 hkp) ?_;have s7:=s6.updN (o:=.tup [.int gi,.int gj]) hkp;have sx:=Same.upd (o:=.tup [.int gi,.int gj]) hkp;have hU7:=sx _ _ hU6;have h62:=sx _ _ hl6;have h63:=sx _ _ hl7;generalize upd H6 kp (.tup [V.int gi,V.int gj])=H7 at s7 hU7 h62 h63 ⊢;clear sx
       by_cases hit:(gi,gj)∈U
       ·rw [zq2 hit,zq2 Jlm];intro kq hkq;obtain ⟨H8,h1,h2,h3,h4⟩:=um (i:=i) (j:=j) s7 hd hU7 hkq (zK hp.snd hs64);refine zn H8 h1 (later ?_);simp_arith! [];exact zAF h2 (h4 _ _ h62 n2) (h4 _ _ h63 n3) (zAD _ true h3 (hp.add hiS hjS (HB.EF hP hst hL hp.snd hiF hjF (zAN k gi gj hgi hgj hit)) (fun z=>(hD z).2.1)) (fun z=>(by cases z)) (zAH _ _ rfl))
       ·rw [zq1 hit,zq1 Jkm];exact zAF s7 h62 h63 (zAD U tn hU7 hp (fun z=>zAB (hD z).1 (hD z).2.1 ((hD z).2.2.next hgi hgj (hp.old z ▸ hit))) (zAH _ _ rfl))
      ·rintro σ H5 ⟨sm,hl2,hl3,U,tn,hU,hp,hD,o6,o7,rfl⟩;rw [aO] at hD;exact ⟨sm,zAD U tn hU hp (fun z=>(hD z).1.next hsx hsy fun _=>(hD z).2.2.all) (zAL _ _ _ rfl)⟩
    ·rintro σ H1 ⟨sm,U,tn,hU,hp,hD,o4,o6,o7,rfl⟩;rw [aO] at hD;exact ⟨sm,zAD U tn hU hp (fun z=>(hD z).row) (zBD _ _ _ _ rfl)⟩
   ·rintro σ H1 ⟨sm,U,tn,hU,hp,hD,o3,o4,o6,o7,rfl⟩;rw [aO] at hD;exact ⟨sm,zAS U tn _ _ _ _ (zAF hU hp hD rfl)⟩
 rintro σ H2 ⟨sm,⟨U,hU,hiff⟩,o3,o4,o5,o6,o7,rfl⟩;refine later ?_;simp_arith! [];exact q d U H2 sm hd hU hiff
variable {H:Hp} {l:List Nat}
theorem p9(h:HC.jr l):∀y∈l,y<HC.cM l:=by
 refine GX.kl (P:=fun l=>HC.jr l->∀y∈l,y<HC.cM l) (fun _ y hy=>by cases hy) (fun l k ih h y hy=>?_) l h;have h1:HC.jr l:=fun i x hx=>by have hi:=(zq7.mp hx).1;have z:=h i x (by rw [gH hi];exact hx);rw [Ej Jlk] at z;exact z
 have hk:=h l.length k (by rw [gG (zq6 _),nA];rfl);rw [Ej (zq6 _),ef] at hk;rw [HC.io];unfold HC.nxN;rcases zq20.mp hy with z | z
 ·have:=ih h1 y z
  split<;>omega
 ·rw [zq9.mp z]
  split<;>omega
theorem Bj:∀c,c<HC.cM l->c∈l:=by
 refine GX.kl (P:=fun l=>∀c,c<HC.cM l->c∈l) (fun c hc=>by simp [HC.cM] at hc) (fun l k ih c hc=>?_) l;rw [HC.io] at hc;unfold HC.nxN at hc
 split at hc
 ·by_cases e:c=HC.cM l
  ·rw [zq20];right;rw [zq9];omega
  ·exact fk _ (ih c Jlk)
 ·exact fk _ (ih c hc)
theorem BL(h:∀(x k:Nat),l[x]?=some k->∀y,y<k->∃z,z<x/\l[z]?=some y):HC.jr l:=by
 intro i
 induction i using Nat.strongRecOn with
 |_ i ih=>
  intro k hk;have hi:=(zq7.mp hk).1;have hN:HC.jr (l.take i):=fun j x hx=>by have hj:=(zq7.mp hx).1;rw [dY] at hj;rw [AD,zq2 Jlk] at hx;have z:=ih j Jlk x hx;rw [List.take_take,sM Jlk];exact z
  by_cases hk0:k=0
  ·omega
  ·obtain ⟨z,hz,he⟩:=h i k hk (k-1) Jlk;have hm:k-1∈l.take i:=GX.take_mem.mpr (zn z hz he);have:=p9 hN _ hm;omega
theorem HV(hp:l.Pairwise (· < ·)){x z a b:Nat}(hx:l[x]?=some a)(hz:l[z]?=some b)(h:b<a):z<x:=by
 obtain ⟨hxl,ex⟩:=zq7.mp hx;obtain ⟨hzl,ez⟩:=zq7.mp hz;refine kG fun hn=>?_
 by_cases e:x=z
 ·subst e;rw [ex] at ez;omega
 ·have:=List.pairwise_iff_getElem.mp hp x z hxl hzl Jlk;omega
def plN(pl:List (Option Nat))(so:List Nat):List Nat:=so.map fun i=>(pl.getD i none).getD 0
theorem tO{F N:List FZ.Blk}{cs so:List Nat}{pl:List (Option Nat)}(h:GZ.Few F (Rch F) cs pl N)(hso:∀i,i∈so↔Rch F i)(hp:so.Pairwise (· < ·))(hF:∀i∈so,i<F.length):HC.jr (plN pl so)/\HC.cM (plN pl so)=N.length:=by
 have hat:∀i,i∈so->pl[i]?=some (some ((pl.getD i none).getD 0))/\(pl.getD i none).getD 0<N.length:=fun i hi=>by obtain ⟨k,c,h1,h2,_⟩:=h.to i _ ((hso i).mp hi) (zq5 (hF i hi));rw [cn,h1];exact ⟨rfl,(zq7.mp h2).1⟩
 have hN:HC.jr (plN pl so):=BL fun x k hx y hy=>by unfold plN at hx;rw [bq] at hx;obtain ⟨i,hi,rfl⟩:=zq47.mp hx;obtain ⟨j,hj,rj,ej⟩:=h.fst i _ (hat i (bg hi)).1 y hy;obtain ⟨z,hz⟩:=zq55.mp ((hso j).mpr rj);refine zn z (HV hp hi hz hj) ?_;unfold plN;rw [bq,hz,vo,cn,ej];rfl
 refine ⟨hN,?_⟩;rcases Nat.lt_trichotomy (HC.cM (plN pl so)) N.length with hlt | heq | hgt
 ·obtain ⟨i,hi,ri,ei⟩:=h.onto _ hlt;have hm:HC.cM (plN pl so)∈plN pl so:=by unfold plN;rw [zq43];refine zn i ((hso i).mpr ri) ?_;rw [cn,ei];rfl
  have:=p9 hN _ hm;omega
 ·exact heq
 ·have hm:=Bj _ hgt;unfold plN at hm;obtain ⟨i,hi,e⟩:=zq43.mp hm;have:=(hat i hi).2;omega
theorem zc{r r':R2}{ta tb tc:TE}{σ:L2.St}{Q:VK}:A2 r r' ta tb tc σ H Q=ta σ H fun x H1=>tb σ H1 fun y H2=>r x y H2 fun z H3=>∃k,z=.bl k/\(if k=true then tc σ H3 fun w' H4=>r' y w' H4 Q else Q (.bl false) H3):=rfl
theorem D8{K:W.Frag}{n:Nat}{a b:Addr}{xs ys:List Nat}(ha:SqL K H a (nlN xs))(hb:SqL K H b (nlN ys))(e:xs=ys):Rq K H n (.ref a) (.ref b) true:=by
 have h:∀l:List Nat,nlN l=(l.map fun n:Nat=>(n:Int)).map V.int:=fun l=>by unfold nlN;rw [eG];rfl
 rw [h] at ha hb;have z:=FL.uD (n:=n) ha hb;rw [bC (by rw [e])] at z;exact z
theorem my{F N:List FZ.Blk}{cs:List Nat}{pl:List (Option Nat)}(h:GZ.Few F (Rch F) cs pl N){i:Nat}(r:Rch F i)(hi:i<F.length):pl[i]?=some (some ((pl.getD i none).getD 0)):=by obtain ⟨k,c,h1,_⟩:=h.to i _ r (zq5 hi);rw [cn,h1];rfl
def nO(K:W.Frag)(tb fo pa sa:Addr)(H:Hp)(Q:VK):Prop:=∃(F N:List FZ.Blk)(cs so:List Nat)(pl:List (Option Nat)),TabV K H tb F/\TabV K H fo N/\SqL K H pa (plV pl)/\SqL K H sa (nlN so)/\GY.Led F/\F.length<64/\N.length<64/\GZ.Few F (Rch F) cs pl N/\(∀i,i∈so↔Rch F i)/\so.Pairwise (· < ·)/\(∀i∈so,i<F.length)/\∀H',Same H H'->Q (.bl true) H'
def pO(K:W.Frag):Sp:=fun vs H Q _=>∃tb fo pa sa:Addr,vs=[.ref tb,.ref fo,.ref pa,.ref sa]/\nO K tb fo pa sa H Q
theorem uz{K:W.Frag}{tb fo pa sa:Addr}{Q:VK}{E:XK}:pO K [.ref tb,.ref fo,.ref pa,.ref sa] H Q E=nO K tb fo pa sa H Q:=propext ⟨by rintro ⟨_,_,_,_,e,q⟩;cases e;exact q,fun q=>zAU _ _ _ _ rfl q⟩
theorem yt(T:Txt K mg t):FnOk P w K mg base CX0 3 t.f_145 t.e_145 ["_law_table","_law_found","_law_places","_law_some"] (pO K):=by
 have G_142:=@mN P w K mg base t T;have G_134:=@yA P w K mg base t T;refine T.d_145.F.ok sc_145 ∅ ?_;rintro cdv A outer s H vs Q E hr ⟨tb,fo,pa,sa,rfl,F,N,cs,so,pl,hTV,hNV,hpl,hsa,hL,hF64,hN64,hW,hso,hpw,hsF,q⟩;refine ⟨_,
   (XSs.h
   (ai
    (b8 PassesOwn.never rfl (cK gl T.z_range (aa (aD aF gl T.z_len PySem.boot_len (aa (yqv 0 vl) ac)) ac)) (av (i:=4) sc_145.nd rfl ll)
     (bo
      (aL (ap iT (cz F3 (ak az (yqv 2 vc) (yqv 4 vl)) dF (aA _)) (cz dB (yqv 4 vl) (yqv 3 vl) rfl) (aA _))
       (aj
        (aw c5))
       aC)
     (aj
      (aL (ap eK (yqv 4 vl) (yqv 3 vl) rfl)
       (bo
        (aL (bR (dh (cV (cv (au T.d_134 G_134 hr.m (aa (ak az (yqv 2 vc) (yqv 4 vl)) ac) gl))) (d7 (cV (x4 Hj iH af (ak az (yqv 2 vc) (yqv 4 vl)) (aD aF gl T.z_len PySem.boot_len (aa (yqv 1 vl) ac)))))))
         (aj
          (aw c5))
         aC)
       (ai
        (aq (i:=5) sc_145.nd rfl ll (ak az (yqv 1 vl) (ak az (yqv 2 vc) (yqv 4 vl))))
       (bo
        (aL (bR (dh (ap (GB.yC (n:=1) (jI Jkm hr)) (ak ar (yqv 5 vl) af) (ak ar (ak az (yqv 0 vl) (yqv 4 vl)) af) (aA _)) (d7 (ap iT (ak ar (ak ar (yqv 5 vl) af) af) (ak ar (ak ar (ak az (yqv 0 vl) (yqv 4 vl)) af) af) (aA _)))))
         (aj
          (aw c5))
         aC)
       (bo
        (aL (bR (cC (ap bu (ak ar (ak ar (yqv 5 vl) af) af) aH (aA _)) (ck (ap iT (ak ar (ak ar (yqv 5 vl) af) af) (ak ar (ak ar (ak az (yqv 0 vl) (yqv 4 vl)) af) af) (aA _)))))
         (aj
          (aw c5))
         aC)
       (aj
        (aL (ap (mP (n:=0) (jI Jkm hr)) (au T.d_142 G_142 hr.m (aa (ak ar (yqv 5 vl) af) ac) gl) (br (tns:=["_law_ahead"]) (cns:=["_law_places"]) (ci:=[2]) rfl (CompSc.of Jkl) (aN (au T.d_142 G_142 hr.m (aa (ak ar (ak az (yqv 0 vl) (yqv 4 vl)) af) ac) gl)) (fun _=>(av (i:=1) (show List.Nodup [(".0":Str),("_law_ahead":Str),("_law_places":Str)] by decide +kernel) rfl ll (Or.inr Jkl))) (fun _=>bN) (fun _=>(ak az (yqv 2 vc) (yqv 1 vl)))) (aA _))
         (aj
          (aw c5))
         aC))))))
       aC))))
   (aj
    (aw (cz (mO (n:=0) (jI Jkm hr)) (aD (mr rfl) gl T.z_sorted boot_sorted (aa (bL (vB rfl) gl T.z_set boot_set (aa (br (tns:=["_law_state"]) (cns:=["_law_places"]) (ci:=[2]) rfl (CompSc.of Jkl) (aN (yqv 3 vl)) (fun _=>(av (i:=1) (show List.Nodup [(".0":Str),("_law_state":Str),("_law_places":Str)] by decide +kernel) rfl ll (Or.inr Jkl))) (fun _=>bN) (fun _=>(ak az (yqv 2 vc) (yqv 1 vl)))) ac)) ac)) (qj rfl T.z_list T.z_range (aa (aD aF gl T.z_len PySem.boot_len (aa (yqv 1 vl) ac)) ac) gl gl) (aA _)))))),?_⟩
 rw [show aP _ [V.ref tb,V.ref fo,V.ref pa,V.ref sa]=[some (.ref tb),some (.ref fo),some (.ref pa),some (.ref sa),none,none] from rfl];simp_arith! [];obtain ⟨xsT,hT,hFp⟩:=id hTV;have lT:=hFp.length;obtain ⟨xsN,hNl,hNp⟩:=id hNV;have lN:=hNp.length;refine zAG _ (.inl (SqL.of hT)) Jlk Jlk ?_;refine fO (fun i σ H'=>Same H H'/\∃o4 o5,σ=[some (.ref tb),some (.ref fo),some (.ref pa),some (.ref sa),o4,o5]) ⟨Same.refl _,zAH _ _ rfl⟩ ?_ ?_
 ·rintro i σ H1 hi ⟨sm,o4,o5,rfl⟩;have hiF:i<F.length:=by omega
  have hbi:F[i]?=some F[i]:=zq5 hiF;generalize F[i]=bi at hbi;have hpi:∃o,pl[i]?=some o:=⟨_,zq5 (by rw [hW.len];exact hiF)⟩
  obtain ⟨o,hpo⟩:=hpi;have hout:=hW.out i hiF;simp_arith! [bK];refine ⟨fun σ H'=>Same H H'/\∃o5,σ=[some (.ref tb),some (.ref fo),some (.ref pa),some (.ref sa),some (.int i),o5],zAA _ _ (sm.seq hpl) (aJ (dg hpo)) ?_,?_⟩
  ·refine zAG _ (.inl (sm.seq hsa)) rfl jQ ?_;rw [rE];have e:decide (opV o=V.non)=! decide (i∈so):=by
    rw [eh,eo,Bool.not_eq_true',decide_eq_false_iff_not,hso,<- hout,hpo]
    cases o with
    |none=>exact ⟨fun _=>rfl,fun _=>rfl⟩
    |some k=>exact ⟨fun z=>(by cases z),fun z=>(by cases z)⟩
   rw [e];refine ⟨rfl,zn _ rfl ?_⟩;rw [bC rfl,zq1 Jkm];exact ⟨sm,_,rfl⟩
  ·clear sm;rintro σ H1 ⟨sm,o5,rfl⟩;refine later ?_;simp_arith! [bK];refine zAG _ (.inl (sm.seq hsa)) rfl jQ ?_;rw [rE]
   by_cases hin:i∈so
   ·rw [bC hin,zq2 rfl];have ri:=(hso i).mp hin;obtain ⟨k,c,hpk,hck,eds,elk,etg⟩:=hW.to i bi ri hbi;have hkN:=(zq7.mp hck).1;obtain ⟨ek,en⟩:=look_iff.mp elk;refine ⟨fun σ H'=>Same H H'/\∃o5,σ=[some (.ref tb),some (.ref fo),some (.ref pa),some (.ref sa),some (.int i),o5],?_,?_⟩
    ·refine zAA _ _ (sm.seq hpl) (aJ (dg hpk)) ?_;rw [show opV (some k)=V.int (k:Int) from rfl,wG];refine zn _ rfl ?_;rw [zq1 Jkm];simp_arith! [zc];refine zAA _ _ (sm.seq hpl) (aJ (dg hpk)) ?_;rw [show opV (some k)=V.int (k:Int) from rfl];simp_arith! [];rw [zq2 (bC Jlk)];refine zn _ (.inl (SqL.of (sm _ _ hNl))) ?_;rw [bC Jlk,zq1 Jkm];exact ⟨sm,_,rfl⟩
    ·clear sm;rintro σ H1 ⟨sm,o5,rfl⟩;refine later ?_;simp_arith! [bK];refine zAA _ _ (sm.seq hpl) (aJ (dg hpk)) ?_;rw [show opV (some k)=V.int (k:Int) from rfl];obtain ⟨xs1,x1,hT1,hx1,q1,a1,e1,vs1,rfl,hq1,ha1,hds1,he1⟩:=(hTV.same sm).at hbi;obtain ⟨xs2,x2,hT2,hx2,q2,a2,e2,vs2,rfl,hq2,ha2,hds2,he2⟩:=(hNV.same sm).at hck;simp_arith! [];refine zAA _ _ (SqL.of hT2) (aJ hx2) ?_;refine later ?_;simp_arith! [bK];refine zn (fun σ H'=>H'=H1/\σ=[some (.ref tb),some (.ref fo),some (.ref pa),some (.ref sa),some (.int i),some (.ref q2)]) ?_ ?_
     ·refine zAA _ _ hq2 rfl (zAA _ _ (SqL.of hT1) (aJ hx1) ?_);simp_arith! [];refine zAA _ _ hq1 rfl (zn (decide (c.ds=bi.ds)) (fun hF=>pE hF (SqL.of ha2) (SqL.of ha1) hds2 hds1) (zn _ rfl ?_));rw [bC eds,zq1 Jkm];refine zAA _ _ hq2 rfl ?_;simp_arith! [];refine zAA _ _ he2 vJ (zAA _ _ (SqL.of hT1) (aJ hx1) ?_);simp_arith! [];refine zAA _ _ hq1 rfl ?_;simp_arith! [];refine zAA _ _ he1 vJ ?_;simp_arith! [];rw [bC ek,zq1 Jkm]
      trivial
     rintro σ H2 ⟨rfl,rfl⟩;refine later ?_;simp_arith! [bK];refine zn (fun σ H'=>H'=H2/\σ=[some (.ref tb),some (.ref fo),some (.ref pa),some (.ref sa),some (.int i),some (.ref q2)]) ?_ ?_
     ·refine zAA _ _ hq2 rfl ?_;simp_arith! [];refine zAA _ _ he2 vJ ?_;simp_arith! []
      by_cases ec:edK c.ed=Str.ofString "choose"
      ·rw [bC ec,zq2 rfl];refine zAA _ _ hq2 rfl ?_;simp_arith! [];refine zAA _ _ he2 (Bt ec) (zAA _ _ (SqL.of hT1) (aJ hx1) ?_);simp_arith! [];refine zAA _ _ hq1 rfl ?_;simp_arith! [];refine zAA _ _ he1 (Bt (ek ▸ ec)) ?_;simp_arith! [];rw [bC (en ec),zq1 Jkm]
       trivial
      ·rw [bh ec,zq1 Jkm]
       trivial
     rintro σ H2 ⟨rfl,rfl⟩;refine later ?_;simp_arith! [bK];refine zAA _ _ hq2 rfl ?_;rw [bK];refine zn c.ed he2 fun p2 H3 s3 hp2 hl2=>?_;have s13:=sm.trans s3;refine zAA _ _ (SqL.of (s3 _ _ hT1)) (aJ hx1) ?_;simp_arith! [];refine zAA _ _ (s3.seqT hq1) rfl ?_;rw [bK];refine zn bi.ed (s3.seqT he1) fun p3 H4 s4 hp3 hl3=>?_;refine zAC p3 rfl ⟨_,SqL.of hl3⟩ fun acc hacc bk=>?_;have s14:=s13.trans s4;refine fL (nlN (bi.ed.tg.map fun j=>(pl.getD j none).getD 0)) (by rw [aO,b9];have:=sk bi.ed;omega) (by rw [aO,aO,zq4]) (SqL.of hl3) hacc (fun j z u hz hu H5 Q' s5 hQ=>?_) (fun H5 s5 he5=>?_)
     ·have hj:j<bi.ed.tg.length:=by have:=(zq7.mp hz).1;rw [aO] at this;exact this
      have ej:bi.ed.tg[j]?=some bi.ed.tg[j]:=zq5 hj;rw [cc ej] at hz
      cases hz
      rw [cc (by rw [bq,ej];rfl)] at hu
      cases hu
      have hlt:=hL bi (bg hbi) _ (dH hj);have rj:=Rch.step ri hbi (dH hj);simp_arith! [];exact zAA _ _ ((s14.trans s5).seq hpl) (aJ (dg (my hW rj hlt))) (hQ _ (Same.refl _))
     ·refine zn true (D8 (SqL.of (s5 _ _ (s4 _ _ hl2))) (SqL.of he5) etg) (zn _ rfl ?_);rw [zq1 Jkm];exact ⟨s14.trans s5,zAH _ _ rfl⟩
   ·rw [bh hin,zq1 Jkm];exact ⟨sm,zAH _ _ rfl⟩
 ·rintro σ H1 ⟨sm,o4,o5,rfl⟩;dsimp only;refine later ?_;simp_arith! [];obtain ⟨hNB,hcn⟩:=tO hW hso hpw hsF;have hsl:so.length<64:=by have z:=FZ.jj so (List.range F.length) (hpw.imp fun h=>Jlk) fun x hx=>zq33.mpr (hsF x hx);rw [cX] at z;omega
  refine ⟨⟨_,sm.seq hsa⟩,fun acc hacc bk=>?_⟩;refine fL (nlN (plN pl so)) (by rw [aO,b9];omega) (by unfold plN;rw [aO,aO,zq4]) (sm.seq hsa) hacc (fun j z u hz hu H5 Q' s5 hQ=>?_) (fun H5 s5 he5=>?_)
  ·have hj:j<so.length:=by have:=(zq7.mp hz).1;rw [aO] at this;exact this
   have ej:so[j]?=some so[j]:=zq5 hj;rw [cc ej] at hz
   cases hz
   rw [cc (by unfold plN;rw [bq,ej];rfl)] at hu
   cases hu
   have rj:=(hso _).mp (dH hj);have hlt:=hsF _ (dH hj);simp_arith! [];exact zAA _ _ ((sm.trans s5).seq hpl) (aJ (dg (my hW rj hlt))) (hQ _ (Same.refl _))
  ·refine zAG (plN pl so) (SqL.of he5) hNB (by unfold plN;rw [zq4];exact hsl) fun p hp=>zn _ ae fun l hl=>?_;generalize lY _ p _=so1 at hl ⊢;have s6:=(sm.trans s5).trans (Same.upd (o:=so1) hp);have s7:=s6.trans (Same.upd (o:=HO.lst (List.map (fun (i:Nat)=>V.int (i:Int)) (List.range (HC.cM (plN pl so))))) hl);have e7:upd (upd H5 p so1) l (HO.lst (List.map (fun (i:Nat)=>V.int (i:Int)) (List.range (HC.cM (plN pl so))))) l=_:=ae;generalize upd (upd H5 p so1) l (HO.lst (List.map (fun (i:Nat)=>V.int (i:Int)) (List.range (HC.cM (plN pl so)))))=H7 at s7 e7 ⊢;refine zn _ (.inl (SqL.of (s7 _ _ hNl))) (zn _ rfl ?_);refine ⟨Jlk,fun l2 hl2=>?_⟩;have e8:=Same.upd (o:=HO.lst (List.map (fun (i:Nat)=>V.int (i:Int)) (List.range xsN.length))) hl2 _ _ e7;exact zn true (D8 (xs:=List.range (HC.cM (plN pl so))) (ys:=List.range xsN.length) (SqL.of e8) (SqL.of ae) (by rw [hcn,lN])) (q _ (s7.trans (Same.upd hl2)))
theorem Af{ns:List Str}{wd:Int}{us:List Int}{B:List FZ.Blk}{bbs:List (List (List FB.Deed))}(hG:FZ.iX ns wd B.length B)(hB:0<B.length)(hL:Paired (fm us) B bbs)(up:∀s,s<3->0<=uN us s):
  FZ.iX ns wd (gE B bbs).length (gE B bbs)/\0<(gE B bbs).length/\(gE B bbs).length<=9 * B.length/\∀r∈gE B bbs,bfB us r.ds=true:=by
 have hl:=hL.length;have hb:∀(i:Nat)b bs,B[i]?=some b->bbs[i]?=some bs->fm us b bs/\b.ds.length<=8:=fun i b bs h1 h2=>by
  obtain ⟨bs',h3,h4⟩:=Paired.get hL h1;rw [h2] at h3
  cases h3
  exact ⟨h4,(hG b (bg h1)).len⟩
 have hm:∀bs∈bbs,∃b,fm us b bs/\b.ds.length<=8:=fun bs hbs=>by obtain ⟨i,hi⟩:=zq55.mp hbs;obtain ⟨b,h1,_⟩:=Paired.getR hL hi;exact ⟨b,hb i b bs h1 hi⟩
 have hne:∀bs∈bbs,bs≠[]:=fun bs hbs=>let ⟨b,h1,h2⟩:=hm bs hbs;(dO up h2 h1).1;have len:(gE B bbs).length=eN bbs:=by have z:=fJ hl hne B.length (zq6 _);rw [fI hl,hl,ef] at z;exact z
 have nine:=m9 fun bs hbs=>let ⟨b,h1,h2⟩:=hm bs hbs;oO h2 h1;refine zAF ?_ ?_ Jlk ?_
 ·rw [len,<- fI hl];exact Ae (us:=us) hl hne hG (fun i b bs h1 h2 l hl2=>by obtain ⟨z1,z2⟩:=hb i b bs h1 h2;exact ((dO up z2 z1).2 l hl2).2) _ (zq6 _)
 ·rw [len];have z:=(lC hne (i:=0) Jlk).2;omega
 ·rw [<- fI hl];exact uX (Z:=fun l=>bfB us l=true) hl hne (fun bs hbs l hl2=>by obtain ⟨b,h1,h2⟩:=hm bs hbs;exact ((dO up h2 h1).2 l hl2).1.bf) _ (zq6 _)
variable {H:Hp}
def CopV(K:W.Frag)(N:Addr->Prop)(H:Hp)(y:V)(p:V×FZ.Blk):Prop:=∃q a e vs q' a',p.1=.ref q/\y=.ref q'/\q'≠q/\a'≠a/\SqT K H q [.ref a,.ref e]/\SqT K H q' [.ref a',.ref e]/\H a=some (.lst vs)/\H a'=some (.lst vs)/\Paired (DeedV1 K H) vs p.2.ds/\SqT K H e (d8 p.2.ed)/\N a/\N a'
theorem CopV.mv{K:W.Frag}{N M:Addr->Prop}{H':Hp}{y:V}{p:V×FZ.Blk}(h:CopV K N H y p)(t:TSame H H')(k:∀a vs,N a->H a=some (.lst vs)->H' a=some (.lst vs))(hm:∀a,N a->M a):CopV K M H' y p:=by obtain ⟨q,a,e,vs,q',a',ex,ey,n1,n2,h1,h2,h3,h4,h5,h8,h6,h7⟩:=h;exact zAS q a e vs q' a' (zBK ex ey n1 n2 (t.seqT h1) (t.seqT h2) (k _ _ h6 h3) (k _ _ h7 h4) (FL.Paired.imp h5 fun _ _ _ _ z=>z.ts t) (t.seqT h8) (hm _ h6) (hm _ h7))
theorem nK{n:Nat}:((List.range n).all fun _=>true)=true:=zq48.mpr fun _ _=>rfl
theorem CopV.dq{K:W.Frag}{N:Addr->Prop}{y:V}{p:V×FZ.Blk}{n:Nat}(h:CopV K N H y p):Dq K H (n+2) y p.1 true:=by
 obtain ⟨q,a,e,vs,q',a',ex,rfl,n1,n2,h1,h2,h3,h4,h5,h8,h6,h7⟩:=h;rw [ex];have z:=Dq.tups (n:=n+1) (fun _=>true) n1 h2 h1 fun j u v hu hv=>by
  match j,hu,hv with
  |0,hu,hv=>
   cases hu;cases hv
   have z:=Dq.lists (n:=n) (fun _=>true) n2 (SqL.of (K:=K) h4) (SqL.of h3) rfl fun j u v hu hv=>by
    rw [hu] at hv
    cases hv
    obtain ⟨d,_,c,rfl,_⟩:=L2.Paired.get h5 hu;exact .same
   rw [nK] at z;exact z
  |1,hu,hv=>cases hu;cases hv;exact .same
  |j+2,hu,hv=>cases hu
 exact z
theorem v9{α β:Type}{xs:List α}{ys:List β}{j:Nat}{x:α}{y:β}(hx:xs[j]?=some x)(hy:ys[j]?=some y):(xs.zip ys)[j]?=some (x,y):=by rw [Ef];exact ⟨hx,hy⟩
theorem xH{K:W.Frag}{N:Addr->Prop}{a b:Addr}{ys xs:List V}{F:List FZ.Blk}(ha:H a=some (.lst ys))(hb:H b=some (.lst xs))(hl:xs.length=F.length)(h:Paired (CopV K N H) ys (xs.zip F)):Rq K H 2 (.ref a) (.ref b) true:=by
 have hlen:=h.length;rw [vq] at hlen;have z:=Rq.lists (n:=2) (fun _=>true) (SqL.of (K:=K) ha) (SqL.of hb) Jlk fun j x y hx hy=>by
  obtain ⟨p,hp,hc⟩:=L2.Paired.get h hx;rw [v9 hy (zq5 (by have:=(zq7.mp hy).1;omega))] at hp
  cases hp
  exact hc.dq
 rw [nK] at z;exact z
theorem tG{K:W.Frag}{N:Addr->Prop}{H:Hp}:∀{ys xs:List V} {F:List FZ.Blk},xs.length=F.length->Paired (CopV K N H) ys (xs.zip F)->Paired (StV K H) ys F
 |_,[],[],_,.nil=>.nil
 |_,x::xs,b::F,hl,.cons h t=>.cons (by obtain ⟨q,a,e,vs,q',a',ex,rfl,n1,n2,h1,h2,h3,h4,h5,h8,h6,h7⟩:=h;exact zAM q' a' e vs rfl h2 h4 h5 h8) (tG (by simpa using hl) t)
theorem FQ{C p a0 b0 r0:Addr}{d:Nat}{wd:Int}{H:Hp}{Q:VK}{E:XK}:uJ K C d [.ref p,.int wd,.ref a0,.ref b0,.ref r0] H Q E=sT K C d p a0 b0 r0 wd H Q:=propext ⟨by rintro ⟨_,_,_,_,_,e,q⟩;cases e;exact q,fun q=>zAX _ _ _ _ _ ⟨rfl,q⟩⟩
theorem EX(T:Txt K mg t)(hw:t.pr=w.params):FnOk P w K mg base CX0 50 t.f_146 t.e_146 ["_law_script"] (sp_law K):=by
 have G_135:=@jT P w K mg base t T;have G_136:=@yu P w K mg base t T;have G_141:=@rG P w K mg base t T;have G_108:=@BQ P w K mg base t T 10;have G_131:=@yz P w K mg base t T hw 10;have G_102:=@EV P w K mg base t T;have G_143:=@BU P w K mg base t T;have G_145:=@yt P w K mg base t T;have G_144:=@BS P w K mg base t T;refine T.d_146.F.ok sc_146 ∅ ?_;rintro cdv A outer s H vs Q E hr ⟨a,ns,rfl,hS,hlen,hbits,q⟩;have hu:=lE hr;refine ⟨_,
   (XSs.h
   (ai
    (aq (i:=1) sc_146.nd rfl ll (dI ji (yqv 0 vl) (de af) (de af)))
   (ai
    (aq (i:=2) sc_146.nd rfl ll af)
   (bo
    (aL (ap iG (aD aF gl T.z_len PySem.boot_len (aa (yqv 0 vl) ac)) af (aA _))
     (aj
      (aq (i:=2) sc_146.nd rfl ll (ak az (yqv 0 vl) af)))
     aC)
   (ai
    (aq (i:=3) sc_146.nd rfl ll (ay bW af (ay bc (yqv 2 vl) af)))
   (ai
    (aq (i:=4) sc_146.nd rfl ll (dI ji (au T.d_136 G_136 hr.m (aa (yqv 2 vl) ac) gl) ie (de (ay bc (ay ba (yqv 2 vl) af) af))))
   (ai
    (aq (i:=5) sc_146.nd rfl ll (dI ji (au T.d_136 G_136 hr.m (aa (yqv 2 vl) ac) gl) (de af) (de (ay bW af (ay bc (ay ba (yqv 2 vl) af) af)))))
   (ai
    (aq (i:=6) sc_146.nd rfl ll (au T.d_141 G_141 hr.m (aa (yqv 1 vl) (aa (ay f6 (yqv 4 vl) (yqv 5 vl)) (aa (yqv 3 vl) (aa af ac)))) gl))
   (bo
    (aL (ap bu (ay bc (ay ba (yqv 2 vl) af) af) af (aA _))
     (ai
      (aq (i:=7) sc_146.nd rfl ll (au T.d_141 G_141 hr.m (aa (yqv 1 vl) (aa (ay f6 (yqv 4 vl) (yqv 5 vl)) (aa (yqv 3 vl) (aa af ac)))) gl))
     (aj
      (aq (i:=6) sc_146.nd rfl ll (ay f6 (aI (aa (aE (aa aH (aa (ak az (yqv 5 vl) af) (aa (yqv 7 vl) (aa (ay f6 (yqv 7 vl) (aI (aa (aE (eR Jlm)) ac))) ac))))) ac)) (yqv 7 vl)))))
     aC)
   (ai
    (aq (i:=8) sc_146.nd rfl ll (aE (aa (ay bW af (ay bc (ay ba (yqv 2 vl) af) af)) (aa (ay bW af (ay bc (ay ba (yqv 2 vl) af) af)) (aa (ay bW af (ay bc (ay ba (yqv 2 vl) af) af)) ac)))))
   (ai
    (aq (i:=9) sc_146.nd rfl ll (au T.d_131 G_131 hr.m (aa (me T.c_Program T.d_108 G_108 hr.m (aa (yqv 3 vl) (aa (yqv 4 vl) (aa (yqv 5 vl) (aa (yqv 6 vl) ac)))) gl) (aa (yqv 8 vl) ac)) gl))
   (ai
    (eC (i:=11) sc_146.nd rfl ll rfl Jkl (tns:=["_law_state"]) (cns:=[]) (ci:=[]) rfl (CompSc.of Jkl) (aN (yqv 9 vl)) (fun _=>(av (i:=1) (show List.Nodup [(".0":Str),("_law_state":Str)] by decide +kernel) rfl ll (Or.inr Jkl))) (fun _=>bN) (fun _=>(aE (aa (bL cA gl T.z_list boot_list (aa (ak ar (yqv 1 vl) af) ac)) (aa (ak ar (yqv 1 vl) af) ac)))))
   (ai
    (aq (i:=12) sc_146.nd rfl ll (au T.d_102 G_102 hr.m (aa (yqv 11 vl) ac) gl))
   (bo
    (aL (bR (dh (ap (mP (n:=2) (jI Jkm hr)) (yqv 11 vl) (yqv 9 vl) (aA _)) (dh (cV (cv (aD eI gl T.z_isinstance boot_isinstance (aa (yqv 12 vl) (aa (eT (v:=.ty "tuple") gl T.z_tuple boot_tuple rfl) ac))))) (d7 (ap iT (aD aF gl T.z_len PySem.boot_len (aa (yqv 12 vl) ac)) af (aA _))))))
     (aj
      (aw c5))
     aC)
   (ai
    (fZ (yqv 12 vl) (dG rfl (aT (av (i:=13) sc_146.nd rfl ll) (aT (av (i:=14) sc_146.nd rfl ll) cU))))
   (bo
    (aL (bR (dh (cV (cv (aD eI gl T.z_isinstance boot_isinstance (aa (yqv 13 vl) (aa (eT (v:=.ty "list") gl T.z_list boot_list rfl) ac))))) (dh (cV (cv (aD eI gl T.z_isinstance boot_isinstance (aa (yqv 14 vl) (aa (eT (v:=.ty "list") gl T.z_list boot_list rfl) ac))))) (d7 (ap iT (aD aF gl T.z_len PySem.boot_len (aa (yqv 14 vl) ac)) (aD aF gl T.z_len PySem.boot_len (aa (yqv 9 vl) ac)) (aA _))))))
     (aj
      (aw c5))
     aC)
   (ai
    (aq (i:=15) sc_146.nd rfl ll (au T.d_143 G_143 hr.m (aa (yqv 9 vl) ac) gl))
   (bo
    (aL (bR (dh (ap iT (ak az (yqv 14 vl) af) af (aA _)) (d7 (cV (cv (au T.d_145 G_145 hr.m (aa (yqv 9 vl) (aa (yqv 13 vl) (aa (yqv 14 vl) (aa (yqv 15 vl) ac)))) gl))))))
     (aj
      (aw c5))
     aC)
   (ai
    (aq (i:=16) sc_146.nd rfl ll (au T.d_144 G_144 hr.m (aa (yqv 9 vl) (aa (yqv 15 vl) ac)) gl))
   (bo
    (b8 PassesOwn.never rfl (aN (yqv 15 vl)) (av (i:=17) sc_146.nd rfl ll)
     (aj
      (b8 PassesOwn.never rfl (aN (yqv 15 vl)) (av (i:=18) sc_146.nd rfl ll)
       (aj
        (aL (ap bu (cz bu (ak az (yqv 14 vl) (yqv 17 vl)) (ak az (yqv 14 vl) (yqv 18 vl)) (aA _)) (CM (v7 hu (aE (aa (yqv 17 vl) (aa (yqv 18 vl) ac))) (yqv 16 vl))) (aA _))
         (aj
          (aw c5))
         aC)))))
   (bo
    (b8 PassesOwn.never rfl (aN (yqv 13 vl)) (av (i:=10) sc_146.nd rfl ll)
     (aj
      (aR (c6 PySem.F.plainAttrs_list PySem.F.slot_list_append PySem.F.type_list_append aX (ak ar (yqv 10 vl) af) (aa (aE (eR Jlm)) ac)))))
   (ai
    (aR (jn PySem.F.plainAttrs_list PySem.F.slot_list_clear PySem.F.type_list_clear ye (yqv 13 vl)))
   (aj
    (aw (cz (mO (n:=2) (jI Jkm hr)) (yqv 11 vl) (yqv 9 vl) (aA _)))))))))))))))))))))))))),?_⟩
 rw [show aP _ [V.ref a]=some (.ref a)::List.replicate 18 none from rfl];simp_arith! [List.replicate_succ,List.replicate_zero];have hcut:g8 (ns.map V.int) (some 1) (some 63)=((ns.take 63).drop 1).map V.int:=by rw [oe Jkm Jkm,List.map_drop,AW];rfl
 refine zn _ hS fun pc hpc=>?_;rw [hcut];have hm2:∀z∈(ns.take 63).drop 1,Builtin.Int.intBits z<=2 ^ 20:=fun z hz=>hbits z (vp (List.mem_of_mem_drop hz));have hl2:((ns.take 63).drop 1).length<=63:=by rw [AY,dY];omega
 generalize (ns.take 63).drop 1=cs at hm2 hl2 ⊢;have s1:=Same.upd (o:=.lst (cs.map V.int)) hpc;refine later ?_;simp_arith! [];refine later ?_;simp_arith! [];refine ⟨fun σ H'=>H'=upd H pc (.lst (cs.map V.int))/\∃c0:Int,Builtin.Int.intBits c0<=2 ^ 20/\σ=[some (.ref a),some (.ref pc),some (.int c0),none,none,none,none,none,none,none,none,none,none,none,none,none,none,none,none],?_,?_⟩
 ·refine zn _ (.inl (s1.seq hS)) (aU (fun h=>?_) (fun h=>?_))
  ·rw [zq4] at h;have h0:(ns.map V.int)[0]?=some (.int ns[0]):=by rw [bq,zq5 Jlk];rfl
   exact zAD _ _ (s1.seq hS) (aJ h0) rfl (zn (ns[0]) (hbits _ (dH _)) rfl)
  ·exact ⟨rfl,zn 3 Jkm rfl⟩
 rintro σ H1 ⟨rfl,c0,hb0,rfl⟩;have hcs:upd H pc (.lst (cs.map V.int)) pc=some (.lst (cs.map V.int)):=ae;generalize upd H pc (.lst (cs.map V.int))=H1 at s1 hcs ⊢;refine later ?_;simp_arith! [];have w0:0<=c0 % 4:=gc _ Jkm;have w7:c0 % 4<4:=kF _ Jkm;have k0:0<=c0 / 4 % 4:=gc _ Jkm;have j0:0<=c0 / 16 % 4:=gc _ Jkm;have hl8:(cJ c0).length=8:=by
  unfold cJ
  split
  ·rfl
  ·unfold nms;simp
 refine later ?_;simp_arith! [uA];refine ⟨hb0,fun p2 H2 s2 hp2 hn2=>⟨CDivB.small Jkm Jkm,zn _ (SqL.of hn2) fun pi hpi=>?_⟩⟩;rw [Bm k0,<- AW];refine later ?_;simp_arith! [uA];refine ⟨hb0,fun p3 H3 s3 hp3 hn3=>⟨CDivB.small Jkm Jkm,zn _ (SqL.of hn3) fun po hpo=>?_⟩⟩;have si:=Same.upd (o:=.lst (((cJ c0).take (c0 / 4 % 4).toNat).map V.str)) hpi;have hi3:H3 pi=some (.lst (((cJ c0).take (c0 / 4 % 4).toNat).map V.str)):=s3 _ _ ae;have hcutO:g8 ((cJ c0).map V.str) (some 4) (some (5+c0 / 16 % 4))=(((cJ c0).take (5+c0 / 16 % 4).toNat).drop 4).map V.str:=by rw [oe Jkm Jlk,List.map_drop,AW];rfl
 rw [hcutO];have so:=Same.upd (o:=.lst ((((cJ c0).take (5+c0 / 16 % 4).toNat).drop 4).map V.str)) hpo;have li:((cJ c0).take (c0 / 4 % 4).toNat).length<=8:=by rw [dY];omega
 have lo:(((cJ c0).take (5+c0 / 16 % 4).toNat).drop 4).length<=8:=by rw [AY,dY];omega
 have lo1:0<(((cJ c0).take (5+c0 / 16 % 4).toNat).drop 4).length:=by rw [AY,dY];omega
 generalize (cJ c0).take (c0 / 4 % 4).toNat=ins at *;generalize ((cJ c0).take (5+c0 / 16 % 4).toNat).drop 4=oth at *;have ho4:upd H3 po (.lst (oth.map V.str)) po=some (.lst (oth.map V.str)):=ae;have hi4:upd H3 po (.lst (oth.map V.str)) pi=some (.lst (ins.map V.str)):=so _ _ hi3;have s4:Same H (upd H3 po (.lst (oth.map V.str))):=(((s1.trans s2).trans si).trans s3).trans so;have hc4:upd H3 po (.lst (oth.map V.str)) pc=some (.lst (cs.map V.int)):=so _ _ (s3 _ _ (si _ _ (s2 _ _ hcs)));refine later ?_;generalize upd H3 po (.lst (oth.map V.str))=H4 at s4 hc4 hi4 ho4 ⊢;clear so si s3 hi3 hn3 hp3 s2 hpi hpo hn2 hp2 hcut hcutO hl8 hcs s1;simp_arith! [lX];refine zAD _ _ hi4 ho4 (by rw [zq4,zq4,b9];omega) fun pb hpb=>?_;have sb:=Same.upd (o:=.lst (ins.map V.str++oth.map V.str)) hpb;refine zAH cs (ins++oth) (zBF (SqL.of (sb _ _ hc4)) hl2 hm2 (SqL.of (by rw [ae,cq])) Jlk Jlk fun pr xs f H5 s5 hr5 hst hnd hfr=>?_);have s45:=sb.trans s5;have g5:=iU (cs:=cs) (ns:=ins++oth) (w:=1+c0 % 4) (most:=24) Jkm;generalize dU cs (ins++oth) (1+c0 % 4) 24=ss at hst g5;have hi5:=s45 _ _ hi4;have ho5:=s45 _ _ ho4;have hc5:=s45 _ _ hc4;have sH5:=s4.trans s45;clear s45 s5 sb hc4 hi4 ho4 hpb hnd hfr s4;refine later ?_;simp_arith! [lX];have w1:1<=1+c0 % 4:=by omega
 have w8:1+c0 % 4<=4:=by omega
 obtain ⟨wd,hwd⟩:∃wd,wd=1+c0 % 4:=⟨_,rfl⟩
 rw [<- hwd] at g5 w1 w8 ⊢;have hp2:(2:Int)<=2 ^ wd.toNat:=by
  have:(2:Int) ^ 1<=2 ^ wd.toNat:=by exact_mod_cast AQ Jkm Jlk
  exact this
 refine ⟨fun σ H'=>Same H H'/\∃ro o7 xs ss f,H' ro=some (.lst xs)/\StmsV K H' xs ss f/\cR (ins++oth) wd ss/\bA ss<=9/\aS ss<=29/\H' pi=some (.lst (ins.map V.str))/\H' po=some (.lst (oth.map V.str))/\σ=[some (.ref a),some (.ref pc),some (.int c0),some (.int wd),some (.ref pi),some (.ref po),some (.ref ro),o7,none,none,none,none,none,none,none,none,none,none,none],⟨CDivB.small Jkm Jkm,aU (fun hh=>?_) (fun hh=>?_)⟩,?_⟩
 ·clear hr5 hst g5 ss xs f;refine zAD _ _ hi5 ho5 (by rw [zq4,zq4,b9];omega) fun pb hpb=>?_;have sb:=Same.upd (o:=.lst (ins.map V.str++oth.map V.str)) hpb;refine zAH cs (ins++oth) (zBF (SqL.of (sb _ _ hc5)) hl2 hm2 (SqL.of (by rw [ae,cq])) Jlk Jlk fun ph xs f H6 s6 hr6 hst hnd hfr=>later ?_);have s46:=sb.trans s6;have g6:=iU (cs:=cs) (ns:=ins++oth) (w:=wd) (most:=9) Jkm;generalize dU cs (ins++oth) wd 9=ss at hst g6;have hi6:=s46 _ _ hi5;have ho6:=s46 _ _ ho5;have sH6:=sH5.trans s46;clear s46 s6 sb hpb hnd hfr hi5 ho5 hc5 sH5;simp_arith! [];have ho0:oth[0]?=some oth[0]:=zq5 lo1;refine zAA _ _ (SqL.of ho6) (aJ (show (oth.map V.str)[0]?=some (.str oth[0]) by rw [bq,ho0];rfl)) ?_;intro d1 hd1;have t1:=Same.upd (o:=HO.tup [V.str (Str.ofString "tell"),V.int 1]) hd1;have e1:upd H6 d1 (HO.tup [V.str (Str.ofString "tell"),V.int 1]) d1=some (HO.tup [V.str (Str.ofString "tell"),V.int 1]):=ae;generalize upd H6 d1 (HO.tup [V.str (Str.ofString "tell"),V.int 1])=G1 at t1 e1 ⊢;intro l1 hl1;have t2:=Same.upd (o:=HO.lst [V.ref d1]) hl1;have e2:upd G1 l1 (HO.lst [V.ref d1]) l1=some (HO.lst [V.ref d1]):=ae;generalize upd G1 l1 (HO.lst [V.ref d1])=G2 at t2 e2 ⊢;have lx:=hst.length;have lm:=oP ss;refine zAD _ _ (t2 _ _ (t1 _ _ hr6)) e2 (by rw [b9,bV];omega) fun l2 hl2=>?_;have t3:=Same.upd (o:=HO.lst (xs++[V.ref d1])) hl2;have e3:upd G2 l2 (HO.lst (xs++[V.ref d1])) l2=some (HO.lst (xs++[V.ref d1])):=ae;generalize upd G2 l2 (HO.lst (xs++[V.ref d1]))=G3 at t3 e3 ⊢;intro d2 hd2;have t4:=Same.upd (o:=HO.tup [V.str (Str.ofString "if"),V.str oth[0],V.ref ph,V.ref l2]) hd2;have e4:upd G3 d2 (HO.tup [V.str (Str.ofString "if"),V.str oth[0],V.ref ph,V.ref l2]) d2=some (HO.tup [V.str (Str.ofString "if"),V.str oth[0],V.ref ph,V.ref l2]):=ae;generalize upd G3 d2 (HO.tup [V.str (Str.ofString "if"),V.str oth[0],V.ref ph,V.ref l2])=G4 at t4 e4 ⊢;intro l3 hl3;have t5:=Same.upd (o:=HO.lst [V.ref d2]) hl3;have e5:upd G4 l3 (HO.lst [V.ref d2]) l3=some (HO.lst [V.ref d2]):=ae;generalize upd G4 l3 (HO.lst [V.ref d2])=G5 at t5 e5 ⊢;have t15:=(((t1.trans t2).trans t3).trans t4).trans t5;refine zAD _ _ e5 (t15 _ _ hr6) (by rw [b9,bV];omega) fun l4 hl4=>?_;have t6:=Same.upd (o:=HO.lst ([V.ref d2]++xs)) hl4;have e6:upd G5 l4 (HO.lst ([V.ref d2]++xs)) l4=some (HO.lst ([V.ref d2]++xs)):=ae;generalize upd G5 l4 (HO.lst ([V.ref d2]++xs))=G6 at t6 e6 ⊢;have t16:=t15.trans t6;have h16:=hst.same t16;have s16:StmV K G6 (.ref d1) (.deed (.tell (.word 1))) []:=.deed trivial (SqT.of ((((t2.trans t3).trans t4).trans t5).trans t6 _ _ e1));have g7:cR (ins++oth) wd (ss++[.deed (.tell (.word 1))]):=goodL_append.mpr ⟨g6.1,⟨⟨Jkm,Jlk⟩,trivial⟩⟩;refine ⟨sH6.trans t16,zBH l4 _ _ (.ifs oth[0] ss (ss++[.deed (.tell (.word 1))])::ss) _ e6 (.cons (.ifs (SqT.of (t5.trans t6 _ _ e4)) (t16 _ _ hr6) (((t4.trans t5).trans t6) _ _ e3) h16 (StmsV.snoc s16 h16)) h16) ⟨zAB (cW _ (dH lo1)) g6.1 g7,g6.1⟩ ?_ ?_ (t16 _ _ hi6) (t16 _ _ ho6) rfl⟩
  ·rw [bA,Stm.deep,gR,bA,Stm.deep,bA];omega
  ·rw [aS,Stm.many,dy,aS,Stm.many,aS];omega
 ·exact ⟨sH5,zBH pr _ xs ss f hr5 hst g5.1 Jlk Jlk hi5 ho5 rfl⟩
 clear hr5 hst g5 ss xs f hi5 ho5 hc5 sH5;rintro σ H5 ⟨sH5,ro,o7,xs,ss,f,hr5,hst,g5,dp,mn,hi5,ho5,rfl⟩;refine later ?_;simp_arith! [];refine zAF (CDivB.small Jkm Jkm) (CDivB.small Jkm Jkm) (CDivB.small Jkm Jkm) fun ut hut=>later ?_;have u0:∀z∈[1+c0 / 128 % 3,1+c0 / 384 % 3,1+c0 / 1152 % 3],(0:Int)<z/\z<=3:=fun z hz=>by simp only [List.mem_cons,List.not_mem_nil,or_false] at hz;rcases hz with rfl | rfl | rfl<;>omega
 have tu:=Same.upd (o:=.tup [V.int (1+c0 / 128 % 3),V.int (1+c0 / 384 % 3),V.int (1+c0 / 1152 % 3)]) hut;have eu:upd H5 ut (.tup [V.int (1+c0 / 128 % 3),V.int (1+c0 / 384 % 3),V.int (1+c0 / 1152 % 3)]) ut=some (.tup ([1+c0 / 128 % 3,1+c0 / 384 % 3,1+c0 / 1152 % 3].map V.int)):=ae;have lu:[1+c0 / 128 % 3,1+c0 / 384 % 3,1+c0 / 1152 % 3].length=3:=rfl;generalize upd H5 ut (.tup [V.int (1+c0 / 128 % 3),V.int (1+c0 / 384 % 3),V.int (1+c0 / 1152 % 3)])=H6 at tu eu ⊢;generalize [1+c0 / 128 % 3,1+c0 / 384 % 3,1+c0 / 1152 % 3]=us at u0 eu lu;simp_arith! [];intro pp dx hpp hdx hne;simp_arith! [FQ];have s6:Same H6 (upd (upd H6 dx (.own pp)) pp (.ins t.C_Program dx [])):=(Same.upd hdx).updM hpp;have tu6:=tu.trans s6;refine zAS dx ins oth xs ss f (zBL ae (tu6 _ _ hi5) (tu6 _ _ ho5) (tu6 _ _ hr5) (hst.same tu6) Jlk Jlk Jlk Jlk fun a' b' r' ys g H7 sx hP _ _=>⟨rfl,?_⟩);have s7:Same H6 H7:=fun c' o' e=>sx c' o' (s6 _ _ e) (am e hpp);have sH7:=(sH5.trans tu).trans s7;have eu7:=s7 _ _ eu;clear s7 sx s6 hi5 ho5 hr5 hst hpp hdx sH5 tu6 tu eu hut hne;rw [Cv];refine ⟨wd,ins,oth,ss,a',b',r',ys,g,us,ins++oth,hP,Jlk,Jlk,g5,SqT.of eu7,lu,u0,fun tb ts bbs H8 s8 htb0 htb hL hts=>later ?_⟩;have up:∀s,s<3->0<=uN us s:=fun s hs=>AV (n6 lu u0 s hs);have lB:=FZ.gL ss;have hG:=FZ.jv g5;have hfew:=CF hL;obtain ⟨g1',g2',g3',g4'⟩:=Af hG lB.2 hL up;have lts:=hts.length;have hLed:GY.Led (gE (FZ.aY ss) bbs):=fun b hb=>(g1' b hb).tg;have hds8:∀b∈gE (FZ.aY ss) bbs,b.ds.length<=8:=fun b hb=>(g1' b hb).len;have hF64:(gE (FZ.aY ss) bbs).length<64:=by omega
 have hF0:0<(gE (FZ.aY ss) bbs).length:=g2';have sH8:=sH7.trans s8;generalize gE (FZ.aY ss) bbs=F at hts hLed hds8 hF64 hF0 lts;clear g1' g2' g3' g4' hfew hG lB up hL hP eu7 sH7 s8 htb0 g5 dp mn;simp_arith! [];refine ⟨⟨_,SqL.of htb⟩,fun acc hacc bk=>?_⟩;refine cP (xs:=ts) (fun i ys H'=>Same H8 H'/\H' acc=some (.lst ys)/\ys.length=i/\Paired (CopV K (fun c=>c≠acc) H') ys ((ts.zip F).take i)) ?_ ?_ ?_ ?_
 ·exact zAF (Same.upd hacc) ae rfl .nil
 ·intro i ys H' _ h;exact SqL.of (h.1 _ _ htb)
 ·rintro i z ys H9 os hzi ho ⟨s9,hacc9,ly,hA⟩
  match os,ho with
  | [o],_=>
   obtain ⟨b,hb,q0,a0,e0,vs,rfl,hq,ha0,hdv,he,hna,hNa⟩:=L2.Paired.get hts hzi;rwa [];refine ⟨zn ([some (.ref q0)]) rfl rfl,?_⟩;rw [zq2 trivial];refine zAA _ _ (SqT.of (s9 _ _ hq)) rfl (zAA a0 vs rfl (.inl (SqL.of (s9 _ _ ha0))) fun l hl=>?_);have t1:=Same.upd (o:=.lst vs) hl;refine zAA _ _ (SqT.of (t1 _ _ (s9 _ _ hq))) rfl fun p7 hp7=>?_;have t7:=Same.upd (o:=.tup [V.ref l,V.ref e0]) hp7;have t17:=t1.trans t7;have hac:=t17 _ _ hacc9;have hla:l≠acc:=(am hacc9 hl).symm;have hlq:p7≠q0:=(am (t1 _ _ (s9 _ _ hq)) hp7).symm;have hl0:l≠a0:=(am (s9 _ _ ha0) hl).symm;have h0a:a0≠acc:=am ha0 hacc;have tu:TSame (upd (upd H9 l (.lst vs)) p7 (.tup [V.ref l,V.ref e0])) (upd (upd (upd H9 l (.lst vs)) p7 (.tup [V.ref l,V.ref e0])) acc (.lst (ys++[V.ref p7]))):=TSame.updL hac;have hi:=(zq7.mp hzi).1;refine zAV hac (by rw [b9];omega) ((s9.trans t17).updM hacc) ae (by rw [zq8,bV,ly]) ?_;have hzl:i<(ts.zip F).length:=by rw [vq];omega
   have hze:(ts.zip F)[i]=(.ref q0,b):=(zq7.mp (v9 hzi hb)).2;rw [df hzl,hze];refine FL.Paired.snoc (F:=CopV K (fun c=>c≠acc) (upd (upd (upd H9 l (.lst vs)) p7 (.tup [V.ref l,V.ref e0])) acc (.lst (ys++[V.ref p7])))) (zAS q0 a0 e0 vs p7 l (zBK rfl rfl hlq hl0 (tu.seqT (SqT.of (t17 _ _ (s9 _ _ hq)))) (tu.seqT (SqT.of ae)) ?_ ?_ (FL.Paired.imp hdv fun y _ d _ z=>((z.ts s9.ts).ts t17.ts).ts tu) (tu.seqT (SqT.of (t17 _ _ (s9 _ _ he)))) h0a hla)) (FL.Paired.imp hA fun y _ c _ z=>z.mv (t17.ts.trans tu) (fun a vs ha e=>?_) fun _ h=>h)
   ·rw [ao h0a];exact t17 _ _ (s9 _ _ ha0)
   ·rw [ao hla];exact t7 _ _ ae
   ·rw [ao ha];exact t17 _ _ e
 rintro ys9 H9 ⟨s9,hacc9,ly,hA⟩;rw [show ts.length=(ts.zip F).length by rw [vq];omega,ef] at hA;refine later ?_;have htb9:=s9 _ _ htb;have hTV9:TabV K H9 tb F:=zn ts htb9 (FL.Paired.imp hts fun x _ b _ z=>by obtain ⟨qb,ab,eb,vs,e,v1,v2,v3,v4,v5⟩:=z;exact zAM qb ab eb vs e (SqT.of (s9 _ _ v1)) (s9 _ _ v2) (FL.Paired.imp v3 fun _ _ _ _ z=>z.ts s9.ts) (SqT.of (s9 _ _ v4)))
 have hAV9:TabV K H9 acc F:=zn ys9 hacc9 (tG lts hA)
 have sH9:=sH8.trans s9;clear hts s9 htb hacc sH8 bk;simp_arith! [Iq];refine zBI F hAV9 hLed hF0 Jlk (fun b hb=>by have:=hds8 b hb;omega) fun pt pf pg cls pl N zs H10 s10 hpf hpg hpt hge hfe hNe hPrt hnx hFew hp0=>later ?_;have hTV10:=hTV9.same s10;have htb10:=s10 _ _ htb9;have hA10:Paired (CopV K (fun c=>c≠acc) H10) ys9 (ts.zip F):=FL.Paired.imp hA fun y _ c _ z=>z.mv s10.ts (fun a vs _ e=>s10 _ _ e) fun _ h=>h;have hacc10:=s10 _ _ hacc9;have hNV10:TabV K H10 pf N:=zn zs hfe (FL.Paired.imp hNe fun x _ b _ z=>by obtain ⟨q,a,e,vs,ex,h1,h2,h3,h4,h5⟩:=z;exact zAM q a e vs ex h1 h2 h3 h4)
 refine rB ?_;simp_arith! [];refine zn true (xH hacc10 htb10 lts hA10) (zn _ rfl ?_);rw [zq1 Jkm];refine zAO _ _ _ rfl Jkk (.tup hpt) (zn _ rfl ?_);rw [zq1 Jkk];refine zn _ (.inr hpt) ?_;rw [show decide ((([V.ref pf,V.ref pg]:List V).length:Int)=2)=true from rfl,zq1 Jkm];refine later ?_;simp_arith! [];refine zAC _ hpt rfl ?_;simp_arith! [];refine later (rB ?_);simp_arith! [];refine zAO _ _ _ rfl Jkk (.lst (SqL.of hfe)) (zn _ rfl ?_);rw [zq1 Jkk];refine zAO _ _ _ rfl Jkk (.lst (SqL.of hge)) (zn _ rfl ?_);rw [zq1 Jkk];refine zn _ (.inl (SqL.of hge)) (zn _ (.inl (SqL.of htb10)) ?_);rw [mT,hFew.len,lts,bC rfl,zq1 Jkm];refine later ?_;simp_arith! [Gc];refine zAW F hTV10 hLed hF0 hF64 fun sa so H13 s13 hsa0 hsa hso hpw hsF=>later ?_;have hsl:so.length<=F.length:=by have z:=FZ.jj so (List.range F.length) (hpw.imp fun h=>Jlk) fun x hx=>zq33.mpr (hsF x hx);rw [cX] at z;exact z
 have hN64:N.length<64:=by have z:=(tO hFew hso hpw hsF).2;have z2:HC.cM (plN pl so)<=(plN pl so).length:=HC.mw;unfold plN at z2;rw [zq4] at z2;unfold plN at z;omega
 refine rB ?_;simp_arith! [uz];refine zAA _ _ (SqL.of (s13 _ _ hge)) (aJ (dg hp0)) ?_;rw [show opV (some 0)=V.int 0 from rfl];simp_arith! [uz];rw [zq1 Jkm];refine zAX F N cls so pl (zBK (hTV10.same s13) (hNV10.same s13) (SqL.of (s13 _ _ hge)) (SqL.of hsa) hLed hF64 hN64 hFew hso hpw hsF fun H14 s14=>zn _ rfl ?_);rw [zq1 Jkm];have s13:=s13.trans s14;have hsa:=s14 _ _ hsa;clear s14;generalize H14=H13 at s13 hsa ⊢;refine later ?_;simp_arith! [Gb];refine zAL F so cls (zBL (hTV10.same s13) hLed hF64 hsa Jlk hsF (fun i hi j hj=>?_) hPrt hnx fun pu U H14 s14 hpu0 hpu hU=>later ?_)
 ·have hiF:=hsF i hi;rw [HB.fc (zq5 hiF)] at hj;exact (hso j).mpr (.step ((hso i).mp hi) (zq5 hiF) hj)
 have s14':=s13.trans s14;have hsa14:=s14 _ _ hsa;simp_arith! [];refine ⟨fun σ H'=>Same H14 H'/\∃o17 o18,σ=[some (.ref a),some (.ref pc),some (.int c0),some (.int wd),some (.ref pi),some (.ref po),some (.ref ro),o7,some (.ref ut),some (.ref tb),none,some (.ref acc),some (.ref pt),some (.ref pf),some (.ref pg),some (.ref sa),some (.ref pu),o17,o18],⟨⟨_,SqL.of hsa14⟩,?_⟩,?_⟩
 ·refine cr (xs:=nlN so) (fun x σ H'=>Same H14 H'/\∃o17 o18,σ=[some (.ref a),some (.ref pc),some (.int c0),some (.int wd),some (.ref pi),some (.ref po),some (.ref ro),o7,some (.ref ut),some (.ref tb),none,some (.ref acc),some (.ref pt),some (.ref pf),some (.ref pg),some (.ref sa),some (.ref pu),o17,o18]) ⟨Same.refl _,zAH _ _ rfl⟩ (fun i σ H' _ h=>SqL.of (h.1 _ _ hsa14)) ?_ ?_
  ·rintro x v σ H15 hv ⟨s15,o17,o18,rfl⟩;have hx:x<so.length:=by have:=(zq7.mp hv).1;rw [aO] at this;exact this
   have hsx:so[x]?=some so[x]:=zq5 hx;rw [cc hsx] at hv
   cases hv
   generalize so[x]=i at hsx ⊢;have hiS:=bg hsx;simp_arith! [];refine ⟨⟨_,SqL.of (s15 _ _ hsa14)⟩,?_⟩;refine cr (xs:=nlN so) (fun x σ H'=>Same H14 H'/\∃o18,σ=[some (.ref a),some (.ref pc),some (.int c0),some (.int wd),some (.ref pi),some (.ref po),some (.ref ro),o7,some (.ref ut),some (.ref tb),none,some (.ref acc),some (.ref pt),some (.ref pf),some (.ref pg),some (.ref sa),some (.ref pu),some (.int i),o18]) ⟨s15,_,rfl⟩ (fun i σ H' _ h=>SqL.of (h.1 _ _ hsa14)) ?_ ?_
   ·clear s15;rintro y v σ H15 hv ⟨s15,o18,rfl⟩;have hy:y<so.length:=by have:=(zq7.mp hv).1;rw [aO] at this;exact this
    have hsy:so[y]?=some so[y]:=zq5 hy;rw [cc hsy] at hv
    cases hv
    generalize so[y]=j at hsy ⊢;have hjS:=bg hsy;have fi:=my hFew ((hso i).mp hiS) (hsF i hiS);have fj:=my hFew ((hso j).mp hjS) (hsF j hjS);have s15':=s14'.trans s15;simp_arith! [gD,f9];refine zAA _ _ (SqL.of (s15' _ _ hge)) (aJ (dg fi)) (zAA _ _ (SqL.of (s15' _ _ hge)) (aJ (dg fj)) ?_);have heq:=hFew.eqv i j (hsF i hiS) (hsF j hjS) ((hso i).mp hiS) ((hso j).mp hjS);have hUij:=hU i j hiS hjS;rw [fi,fj] at heq;generalize (pl.getD i none).getD 0=ki at heq ⊢;generalize (pl.getD j none).getD 0=kj at heq ⊢;rw [show opV (some ki)=V.int (ki:Int) from rfl,show opV (some kj)=V.int (kj:Int) from rfl];simp_arith! [gD,f9];intro kp hkp;refine zAA pu _ rfl (n9 (s15 _ _ hpu) hkp) ?_;have s16:=s15.updN (o:=.tup [.int i,.int j]) hkp
    by_cases hin:(i,j)∈U
    ·have hk:¬(ki:Int)=kj:=fun z=>(hUij.mp hin) (heq.mp (by rw [Int.ofNat.inj z]));rw [zq2 hin,bh hk,zq1 Jkm];exact ⟨s16,_,rfl⟩
    ·have hk:(ki:Int)=kj:=by have z:=heq.mpr (kG fun z=>hin (hUij.mpr z));rw [Option.some.inj (Option.some.inj z)]
     rw [zq1 hin,bC hk,zq1 Jkm];exact ⟨s16,_,rfl⟩
   ·rintro σ H16 ⟨s16,o18,rfl⟩;exact ⟨s16,zAH _ _ rfl⟩
  ·rintro σ H16 ⟨s16,o17,o18,rfl⟩;exact ⟨s16,zAH _ _ rfl⟩
 rintro σ H15 ⟨s15,o17,o18,rfl⟩;have s15':=s14'.trans s15;refine later ?_;simp_arith! [];have hN8:∀(k:Nat)(c:FZ.Blk),N[k]?=some c->c.ds.length<=8:=fun k c hc=>by
  obtain ⟨i,hi,ri,ei⟩:=hFew.onto k (zq7.mp hc).1;obtain ⟨k',c',h1,h2,h3,_⟩:=hFew.to i _ ri (zq5 hi);rw [ei] at h1
  cases h1
  rw [hc] at h2
  cases h2
  rw [h3];exact hds8 _ (dH hi)
 have hZ:∀(k:Nat)z,zs[k]?=some z->∃q a e,z=.ref q/\SqT K H15 q [.ref a,.ref e]/\H9 a=none/\a≠pf/\∃vs,H15 a=some (.lst vs)/\vs.length<=8+0:=fun k z hz=>by obtain ⟨c,hc,q,a,e,vs,ex,h1,h2,h3,h4,h5,h6⟩:=L2.Paired.get hNe hz;exact zAI q a e ex (s15'.seqT h1) h5 h6 (zn vs (s15' _ _ h2) (by rw [h3.length];exact hN8 k c hc))
 have s915:=s10.trans s15';refine ⟨fun σ H'=>Same H9 H'/\H' pf=some (.lst zs)/\∃o10,σ=[some (.ref a),some (.ref pc),some (.int c0),some (.int wd),some (.ref pi),some (.ref po),some (.ref ro),o7,some (.ref ut),some (.ref tb),o10,some (.ref acc),some (.ref pt),some (.ref pf),some (.ref pg),some (.ref sa),some (.ref pu),o17,o18],⟨⟨_,SqL.of (s15' _ _ hfe)⟩,?_⟩,?_⟩
 ·refine cr (xs:=zs) (fun i σ H'=>(Same H9 H'/\H' pf=some (.lst zs)/\∀(k:Nat)z,zs[k]?=some z->∃q a e,z=.ref q/\SqT K H' q [.ref a,.ref e]/\H9 a=none/\a≠pf/\∃vs,H' a=some (.lst vs)/\vs.length<=8+i)/\∃o10,σ=[some (.ref a),some (.ref pc),some (.int c0),some (.int wd),some (.ref pi),some (.ref po),some (.ref ro),o7,some (.ref ut),some (.ref tb),o10,some (.ref acc),some (.ref pt),some (.ref pf),some (.ref pg),some (.ref sa),some (.ref pu),o17,o18]) ⟨zAB s915 (s15' _ _ hfe) hZ,_,rfl⟩ (fun i σ H' _ h=>SqL.of h.1.2.1) ?_ ?_
  ·rintro i z σ H16 hz ⟨⟨s16,hf16,hZ16⟩,o10,rfl⟩;obtain ⟨q1,a1,e1,rfl,h1,h2,h3,vs,h4,h5⟩:=hZ16 i z hz;have hi:=(zq7.mp hz).1;simp_arith! [];refine zAD _ _ h1 rfl (.inl ⟨rfl,_,SqL.of h4⟩) fun p hp=>?_;have tp:=Same.upd (o:=HO.tup [V.str (Str.ofString "tell"),V.int 0]) hp;have h4':=tp _ _ h4;have hf':=tp _ _ hf16;have hlz:=hNe.length;have s17:=s16.trans tp;have hZ17:∀(k:Nat)z,zs[k]?=some z->∃q a e,z=.ref q/\SqT K (upd H16 p (HO.tup [V.str (Str.ofString "tell"),V.int 0])) q [.ref a,.ref e]/\H9 a=none/\a≠pf/\∃vs,upd H16 p (HO.tup [V.str (Str.ofString "tell"),V.int 0]) a=some (.lst vs)/\vs.length<=8+i:=fun k z hz=>by obtain ⟨q,a,e,ex,k1,k2,k3,vs,k4,k5⟩:=hZ16 k z hz;exact zAI q a e ex (tp.seqT k1) k2 k3 (zn vs (tp _ _ k4) k5)
   generalize upd H16 p (HO.tup [V.str (Str.ofString "tell"),V.int 0])=H17 at tp h4' hf' s17 hZ17 ⊢;have tu:TSame H17 (upd H17 a1 (.lst (vs++[V.ref p]))):=TSame.updL h4';refine zBA a1 vs _ rfl rfl h4' (by rw [b9];omega) (zAB (s17.updM h2) (by rw [ao (Ne.symm h3)];exact hf') fun k z hz=>?_) ⟨_,rfl⟩;obtain ⟨q,a,e,ex,k1,k2,k3,vs',k4,k5⟩:=hZ17 k z hz
   by_cases ea:a=a1
   ·subst ea;exact zAI q a e ex (tu.seqT k1) k2 k3 (zn _ ae (by rw [zq8,bV];omega))
   ·exact zAI q a e ex (tu.seqT k1) k2 k3 (zn vs' (by rw [ao ea];exact k4) Jlk)
  ·rintro σ H16 ⟨⟨s16,hf16,_⟩,o10,rfl⟩;exact zAB s16 hf16 ⟨_,rfl⟩
 rintro σ H16 ⟨s16,hf16,o10,rfl⟩;refine later ?_;simp_arith! [];refine ⟨.inl ⟨rfl,_,SqL.of hf16⟩,zAD pf zs rfl rfl hf16 (later ?_)⟩;rwa [];have s17:=s16.updM (o:=.lst []) hpf;generalize upd H16 pf (.lst [])=H17 at s17 ⊢;exact zn true (xH (s17 _ _ hacc9) (s17 _ _ htb9) lts (FL.Paired.imp hA fun y _ c _ z=>z.mv s17.ts (fun a vs _ e=>s17 _ _ e) fun _ h=>h)) (q _)
theorem vX(T:Txt K mg t):∀(s:Shared)(u:Value),BindsTo s t.e_146 ⟨[u],[]⟩ [("_law_script",u)]:=by obtain ⟨oc,od,kV,doc,pm,an,cdv,ct,osl,e,_,_⟩:=T.d_146.F.ex;intro s u;rw [e];exact .of_eq rfl
end
theorem JY{l:W.OpenLaw}{q:Program}{loose:List Str}{XP:(Str->Option Value)->Heap->Prop}{YP:World->Heap->Prop}{d:DefRec}{K:Params->W.Frag}(hn:l.most=some 63)(hdf:d.params.defaults=[])(hd:d.name="law")
  (hY:∀(w:World)(h:Heap),YP w h->(K w.params).In h)
  (F:∀(w:World)(mg:Str->Option Value)(h:Heap),(K w.params).In h->h.Ns mainGlobals mg->∃t,Txt (K w.params) mg t/\t.pr=w.params) :
  W.WalkO q loose XP YP l.row.toRowW d [] (fun f vs=>PySem.call f vs):=by
 refine L2.Ak (n:=63) (k:=100) (x:="_law_script") (CX:=fun _=>CX0) (sp:=fun w=>sp_law (K w.params)) hn Jkm hdf ⟨rfl,Jkm,Jkm⟩ hY (fun w mg fa h KX G hmg=>?_) (fun _ _ a ns hl hb _ hS=>zAP a ns rfl hS hl hb fun _=>rfl) fun _ _ _ _ _ z=>z;obtain ⟨t,T,hw⟩:=F w mg h KX G;rw [hd] at hmg;have e0:=hmg.symm.trans T.d_146.M
 cases e0
 exact zn t.e_146 (vX T) (fun base _ _=>(EX T hw).mono Jkm)
end K80
set_option maxHeartbeats 4000000
local macro_rules | `(tactic| simp_arith [$ts,*])=>`(tactic| ((try dsimp only); k_is))
local macro_rules | `(∅)=>`(by simp_arith [])
namespace PySem.W.Fast
def tw3793854288980151770:=0
def tw10521551331740038222:=0
def tw16532861598651572351:=0
def tw5765105281261909128:=0
def tw2116875533370844131:=0
def tw1323995108713906093:=0
def tw1770565039241754845:=0
def tw14108889871441180040:=0
def tw9551471313799085216:=0
def tw6393902089586310046:=0
def tw16201959639652233225:=0
def tw231684313441481843:=0
def tw338528993975157955:=0
def tw5960344990286204999:=0
def tw2363994596302955576:=0
def tw2653743362984970712:=0
def tw14182218728860778089:=0
def tw9580537978276808211:=0
def tw5334090095656443430:=0
def tw8726151431999964372:=0
def tw4585937448748307815:=0
def tw12603104757077970060:=0
def tw14734737408545633918:=0
def tw18007179795176929353:=0
def tw10069176154956266268:=0
def tw4541710797904739469:=0
def tw6547207108878824708:=0
def tw7884904567697543630:=0
def tw4664738738559178883:=0
def tw5947851944195514187:=0
def tw14916108009327403241:=0
def tw15599541929629372181:=0
def tw12119006725065793052:=0
def tw17400545770896736058:=0
def tw9534757674339921102:=0
def tw15027199150797122142:=0
def tw3951411393033997124:=0
def tw1047138915184199003:=0
def tw4519704330039578717:=0
def tw3601205636975834726:=0
def tw9152598965918267258:=0
def tw4902132879759971549:=0
def tw12693734195267301240:=0
def tw11668775769251408239:=0
def tw9283655628689711814:=0
def tw14060517818558961776:=0
def tw11635146999283075975:=0
def tw13113178350793004654:=0
def tw626218180359550935:=0
def tw17416322299919018006:=0
def tw7972979383036150629:=0
def tw18438079621689538937:=0
def tw7556693223187029949:=0
def tw7238632711918820802:=0
def tw12152729500575323510:=0
def tw14310047603848345287:=0
def tw8659098262140066297:=0
def tw16946760588119105923:=0
def tw11003652969228475914:=0
def tw10743881982690052898:=0
def tw6915515683952215527:=0
def tw4763397562011877134:=0
def tw14958634105854903354:=0
def tw4525657825167014891:=0
def tw17361908145196029545:=0
def tw3981254517744511117:=0
def tw1675947603473558911:=0
def tw3822429332535570609:=0
def tw12209629449966772375:=0
def tw1180587819258093406:=0
def tw16210032136779712493:=0
def tw16148316532791691714:=0
def tw8484658000250383518:=0
def tw16252120104027680897:=0
def tw14905222402397011164:=0
def tw15492192538508741096:=0
def tw3150181211325837837:=0
def tw10577663434257057606:=0
def tw17807582596150152740:=0
def tw18165647507919130390:=0
def tw17033716094573782153:=0
def tw12688779955273812852:=0
def tw6846672299302688911:=0
def tw361311523150967912:=0
def tw1102466684275519637:=0
def tw572856196174556443:=0
def tw5316687533681469764:=0
def tw6627174853287840457:=0
def tw9136547522303768976:=0
def tw17645373686723932872:=0
def tw9537383251904802680:=0
def tw3330101252969306089:=0
def tw3867893601952074214:=0
def tw2505362640111047025:=0
def tw11997663932936155862:=0
def tw14215229552576985952:=0
def tw10734492337338575168:=0
def tw1895779419624199263:=0
def tw17310984678519270824:=0
def tw16365753228311919899:=0
def tw18348147782784481777:=0
def tw4476196760416498439:=0
def tw3545201405216537097:=0
def tw10479643653018403268:=0
def tw8462443058467256263:=0
def tw2627919674280022975:=0
def tw1907883568438114339:=0
def tw7381500751271536706:=0
def tw15357430669025012955:=0
def tw10503687509712663190:=0
def tw4755200174967527446:=0
def tw17263643738599202663:=0
def tw15583190570225134606:=0
def tw14222590052067001325:=0
def tw3779083308681113949:=0
def tw15815490081228212798:=0
def tw10835059531750115849:=0
def tw10926828113188837726:=0
def tw8669431194738767759:=0
def tw5155786120919211879:=0
end PySem.W.Fast
open PySem PySem.W PyProof.Rows
set_option maxRecDepth 100000 in
set_option maxHeartbeats 0 in
theorem PySem.Challenge.cw_deedloom_k80_tables_made_fewer_holds : PySem.Challenge.rw_deedloom_k80_tables_made_fewer.Holds := by
 w_on; o_law; k_head; (case hw=>w_witness2)
 k_fill
 refine K80.JY (l := PySem.Challenge.rw_deedloom_k80_tables_made_fewer) rfl rfl rfl (fun w h Y=>PySem.W.kIn_of Y) ?F
 case F =>
  intro w mg h KX G
  exact ⟨⟨w.params,_,_,_,_,_,_,_,_,_,_,_,_,_,_,_,_,_,_,_,_,_,_,_,_,_,_,_,_,_,_,_,_,_,_,_,_,_,_,_,_,_,_,_,_,_,_,_,_,_,_,_,_,_,_,_,_,_,_,_,_,_,_,_,_,_,_,_,_,_,_,_,_,_,_,_,_,_,_,_,_,_,_,_,_,_,_,_,_,_,_,_,_,_,_,_,_,_,_,_⟩,⟨PySem.W.mg_of KX G ∅,K80.y8 ∅ (by first | rfl | kernel_rfl | decide) (by first | rfl | kernel_rfl | decide),PySem.W.mg_of KX G ∅,L2.Ew KX G ∅ ∅ ∅ ∅ ∅ ∅ ∅,by show PySem.W.findIn _ _ _ = some none; simp_arith [],L2.Ew KX G ∅ ∅ ∅ ∅ ∅ ∅ ∅,by show PySem.W.findIn _ _ _ = some none; simp_arith [],by show PySem.W.findIn _ _ _ = some none; simp_arith [],by show PySem.W.findIn _ _ _ = some none; simp_arith [],by show PySem.W.findIn _ _ _ = some none; simp_arith [],L2.Ew KX G ∅ ∅ ∅ ∅ ∅ ∅ ∅,by show PySem.W.findIn _ _ _ = some none; simp_arith [],by show PySem.W.findIn _ _ _ = some none; simp_arith [],by show PySem.W.findIn _ _ _ = some none; simp_arith [],L2.cD KX G ∅ ∅ ∅ ∅ (L2.bn1 fun _ _ _ _ _ _ _=>rfl),L2.cD KX G ∅ ∅ ∅ ∅ (L2.bn2 fun _ _ _ _ _ _ _ _=>rfl),L2.cD KX G ∅ ∅ ∅ ∅ (L2.bn1 fun _ _ _ _ _ _ _=>rfl),L2.cD KX G ∅ ∅ ∅ ∅ (L2.bn1 fun _ _ _ _ _ _ _=>rfl),L2.cD KX G ∅ ∅ ∅ ∅ (L2.bn1 fun _ _ _ _ _ _ _=>rfl),L2.cD KX G ∅ ∅ ∅ ∅ (L2.bn2 fun _ _ _ _ _ _ _ _=>rfl),L2.cD KX G ∅ ∅ ∅ ∅ (L2.bn1 fun _ _ _ _ _ _ _=>rfl),L2.cD KX G ∅ ∅ ∅ ∅ (L2.bn1 fun _ _ _ _ _ _ _=>rfl),L2.gX ∅ ∅ ∅ ∅ ∅ (L2.bn5 fun _ _ _ _ _ _ _ _ _ _ _=>rfl),L2.cD KX G ∅ ∅ ∅ ∅ (L2.bn1 fun _ _ _ _ _ _ _=>rfl),L2.cD KX G ∅ ∅ ∅ ∅ (L2.bn1 fun _ _ _ _ _ _ _=>rfl),L2.cD KX G ∅ ∅ ∅ ∅ (L2.bn1 fun _ _ _ _ _ _ _=>rfl),L2.gX ∅ ∅ ∅ ∅ ∅ (L2.bn1 fun _ _ _ _ _ _ _=>rfl),L2.gX ∅ ∅ ∅ ∅ ∅ (L2.bn1 fun _ _ _ _ _ _ _=>rfl),L2.gX ∅ ∅ ∅ ∅ ∅ (L2.bn2 fun _ _ _ _ _ _ _ _=>rfl),L2.gX ∅ ∅ ∅ ∅ ∅ (L2.bn2 fun _ _ _ _ _ _ _ _=>rfl),L2.gX ∅ ∅ ∅ ∅ ∅ (L2.bn3 fun _ _ _ _ _ _ _ _ _=>rfl),L2.gX ∅ ∅ ∅ ∅ ∅ (L2.bn3 fun _ _ _ _ _ _ _ _ _=>rfl),L2.gX ∅ ∅ ∅ ∅ ∅ (L2.bn3 fun _ _ _ _ _ _ _ _ _=>rfl),L2.gX ∅ ∅ ∅ ∅ ∅ (L2.bn3 fun _ _ _ _ _ _ _ _ _=>rfl),L2.cD KX G ∅ ∅ ∅ ∅ (L2.bn1 fun _ _ _ _ _ _ _=>rfl),L2.cD KX G ∅ ∅ ∅ ∅ (L2.bn1 fun _ _ _ _ _ _ _=>rfl),L2.cD KX G ∅ ∅ ∅ ∅ (L2.bn1 fun _ _ _ _ _ _ _=>rfl),L2.cD KX G ∅ ∅ ∅ ∅ (L2.bn1 fun _ _ _ _ _ _ _=>rfl),L2.cD KX G ∅ ∅ ∅ ∅ (L2.bn3 fun _ _ _ _ _ _ _ _ _=>rfl),L2.cD KX G ∅ ∅ ∅ ∅ (L2.bn2 fun _ _ _ _ _ _ _ _=>rfl),L2.gX ∅ ∅ ∅ ∅ ∅ (L2.bn3 fun _ _ _ _ _ _ _ _ _=>rfl),L2.gX ∅ ∅ ∅ ∅ ∅ (L2.bn2 fun _ _ _ _ _ _ _ _=>rfl),L2.gX ∅ ∅ ∅ ∅ ∅ (L2.bn4 fun _ _ _ _ _ _ _ _ _ _=>rfl),L2.gX ∅ ∅ ∅ ∅ ∅ (L2.bn4 fun _ _ _ _ _ _ _ _ _ _=>rfl),L2.gX ∅ ∅ ∅ ∅ ∅ (L2.bn4 fun _ _ _ _ _ _ _ _ _ _=>rfl),L2.cD KX G ∅ ∅ ∅ ∅ (L2.bn2 fun _ _ _ _ _ _ _ _=>rfl),L2.cD KX G ∅ ∅ ∅ ∅ (L2.bn2 fun _ _ _ _ _ _ _ _=>rfl),L2.cD KX G ∅ ∅ ∅ ∅ (L2.bn2 fun _ _ _ _ _ _ _ _=>rfl),L2.cD KX G ∅ ∅ ∅ ∅ (L2.bn1 fun _ _ _ _ _ _ _=>rfl),L2.cD KX G ∅ ∅ ∅ ∅ (L2.bn2 fun _ _ _ _ _ _ _ _=>rfl),L2.cD KX G ∅ ∅ ∅ ∅ (L2.bn1 fun _ _ _ _ _ _ _=>rfl),L2.cD KX G ∅ ∅ ∅ ∅ (L2.bn3 fun _ _ _ _ _ _ _ _ _=>rfl),L2.cD KX G ∅ ∅ ∅ ∅ (L2.bn3 fun _ _ _ _ _ _ _ _ _=>rfl),L2.cD KX G ∅ ∅ ∅ ∅ (L2.bn2 fun _ _ _ _ _ _ _ _=>rfl),L2.cD KX G ∅ ∅ ∅ ∅ (L2.bn1 fun _ _ _ _ _ _ _=>rfl),L2.cD KX G ∅ ∅ ∅ ∅ (L2.bn4 fun _ _ _ _ _ _ _ _ _ _=>rfl),L2.cD KX G ∅ ∅ ∅ ∅ (L2.bn1 fun _ _ _ _ _ _ _=>rfl),L2.cD KX G ∅ ∅ ∅ ∅ (L2.bn1 fun _ _ _ _ _ _ _=>rfl),L2.cD KX G ∅ ∅ ∅ ∅ (L2.bn2 fun _ _ _ _ _ _ _ _=>rfl),L2.cD KX G ∅ ∅ ∅ ∅ (L2.bn4 fun _ _ _ _ _ _ _ _ _ _=>rfl),L2.cD KX G ∅ ∅ ∅ ∅ (L2.bn1 fun _ _ _ _ _ _ _=>rfl),PySem.W.mg_none_of KX G ∅,PySem.W.mg_none_of KX G ∅,PySem.W.mg_none_of KX G ∅,PySem.W.mg_none_of KX G ∅,PySem.W.mg_none_of KX G ∅,PySem.W.mg_none_of KX G ∅,PySem.W.mg_none_of KX G ∅,PySem.W.mg_none_of KX G ∅,PySem.W.mg_none_of KX G ∅,PySem.W.mg_none_of KX G ∅,PySem.W.mg_none_of KX G ∅,PySem.W.mg_none_of KX G ∅,PySem.W.mg_none_of KX G ∅,PySem.W.mg_none_of KX G ∅,PySem.W.mg_none_of KX G ∅⟩,rfl⟩

import PyProof.Rows.All
import Wide.All
import OpenK.AllK
import Wide.FinOn
import HandS.ForMost
import HandS.Conv
import HandS.Zip
import HandS.Walk
import HandS.IsInst
import HandS.Wide
import HandS.EndBits
import HandS.TupAny
import HandS.TupMul
import HandS.Style
import HandS.Deep
import HandS.NoneIn
import HandS.TupLe
import KE.GoesMore
import KE.GoesZip
import HandS.Dict
import HandS.Codes
import PySem.Challenge.RW_postvote_k28_vectors_judged
set_option Elab.async false
set_option linter.all false
set_option maxRecDepth 100000
namespace Pv
open PySem PySem.Spec PyProof.Rows L2

/-! heaps -/
theorem upNew {H : Hp} {p b : Addr} {o z : HO} (np : H p = none) (h : H b = some z) : upd H p o b = some z := by
  rw [upd_ne (ne_of_none h np)]; exact h
theorem sameNew {H : Hp} {p : Addr} {o : HO} (np : H p = none) : Same H (upd H p o) := fun _ _ e => upNew np e

/-! a def that is called where no repr is under way -/
structure FnG (P : Program) (w : World) (K : PySem.W.Frag) (mg : Str → Option Value) (base : Heap) (k : Nat) (f : Addr) (fd : FuncData) (ps : List Str) (sp : Sp) : Prop where
  cnt : ∀ vs H Q E, sp vs H Q E → vs.length = ps.length
  go : ∀ (A : Around) (outer : List Env) (s : Shared) (H : Hp) (args : Args) (us : List Value) (vs : List V) (Q : VK) (E : XK),
    A.guards = some [] → Room k A → Env0 P w K mg base A outer s H → BindsTo s fd args (ps.zip us) → Vals vs us →
    sp vs H Q E → codeAny (model P w) A (.call (.ref f) args) (CR CX0 outer P w H s Q E) s
section
variable {P : Program} {w : World} {K : PySem.W.Frag} {mg : Str → Option Value} {base : Heap}
theorem okG {x qual : Str} {st : Stmt} {f : Addr} {fd : FuncData} {N ps : List Str} {k : Nat} {sp : Sp}
    (F : Fun K x qual st f fd) (S : FnScope N ps (defScope st)) (cnt : ∀ vs H Q E, sp vs H Q E → vs.length = ps.length)
    (hbody : ∀ (cdv : Value) (A : Around) (outer : List Env) (s : Shared) (H : Hp) (vs : List V) (Q : VK) (E : XK),
      A.guards = some [] → Room k (A.deeper (envOfC qual (defScope st) s.heap.objs.size f cdv)) → sp vs H Q E →
      ∃ t, PSs (cxOf CX0 P w K mg base N qual (defScope st) f cdv A outer s H E).nox (defBody st) t ∧
        t { nx := fun _ H' => Q .non H', rt := Q } (start N vs) H) : FnG P w K mg base (k + 1) f fd ps sp := by
  obtain ⟨oc, od, kV, doc, pm, an, cdv, ct, osl, rfl, lk, hcd⟩ := F.ex
  refine ⟨cnt, ?_⟩
  intro A outer s H args us vs Q E hgd hr e0 hb r hsp
  have hl := cnt vs H Q E hsp
  have kk : ∀ b o, base.get? b = some o → s.heap.get? b = some o := fun b o e => (e0.bs b o e).1
  have KX : K.In s.heap := e0.mod.kin.keeps kk
  have lim : s.heap.NoLimit := e0.mod.nolimit.keeps kk
  refine codeAny_call_function hr.depth (KX _ _ lk) rfl S.co S.gen rfl (PySem.W.codeRec_of KX hcd)
    (hb _ _ _ _ (wpAny_newFunctionEnv_cells S.kind ?_ ?_))
  · rintro ⟨n, v⟩ hy
    rcases S.par n (List.of_mem_zip hy).1 with q | q
    · left; exact q
    · right; exact ⟨q, PySem.W.cellsFrom_some _ _ _ (Or.inl q)⟩
  · intro env he s1 x
    cases he
    refine ⟨lim.keeps x.toInCall.keep, ?_⟩
    apply codeAny_func
    obtain ⟨t, ht0, hq⟩ := hbody cdv A outer s H vs Q E hgd (hr.deeper _) hsp
    have ht := ht0.nox
    have I := inv_start (CX := CX0) (f := f) (qual := qual) (E := E) S hr.hd e0 hl r x
    refine wpAny_mono (ht.run [] s1 (start N vs) H _ I hq) ?_ (fun _ _ z => z)
    intro fl s' hs
    cases fl with
    | ret u => obtain ⟨v, σ', H', J, rv, q⟩ := hs; exact ⟨v, H', J.os, J.bare, J.base, J.hok, rv, q⟩
    | next => obtain ⟨σ', H', J, q⟩ := hs; exact ⟨V.non, H', J.os, J.bare, J.base, J.hok, rfl, q⟩
    | brk => obtain ⟨_, _, _, q⟩ := hs; exact q.elim
    | cont => obtain ⟨_, _, _, q⟩ := hs; exact q.elim
end
section
variable {X : Cx} {k : Nat} {f : Addr} {fd : FuncData} {ps : List Str} {sp : Sp} {x : Str} {p pos : Pos} {e : Expr} {es : List Expr} {t : TA}
theorem pe_callG (F : FnG X.prog X.w X.K X.mg X.base k f fd ps sp) (hgd : X.A.guards = some []) (hr : Room k X.A) (hg : Gl X x)
    (hm : X.mg x = some (.ref f)) (hk : PySem.W.keepIn X.K (.ref f) = true) (hb : Binds X.K fd ps []) (ha : PA X (e :: es) t)
    (hdb : (x == ("__debug__" : Str)) = false := by decide) (he : starEach (e :: es) X.env = (false, eval e X.env) :: starEach es X.env := by rfl)
    (hpl : (backTo pos (starEach es X.env)).any (·.1) = false := by rfl) :
    PE X (.Call (.Name x p) (e :: es) [] pos) (tCall sp [] E0 t) := by
  constructor
  intro pins s σ H Q I h
  refine wpAny_Call_Name_kw (ld_glob I hg hm ?_ hdb)
  refine PySem.W.callWith_K (h₀ := X.base) I.ok.mod.kin hk (thn (ha.run pos pins s σ H _ I h) ?_) he hpl
  rintro us s1 ⟨vs, H1, I1, r, q⟩
  refine ⟨I1.kIn, ?_⟩
  have r2 : Vals (vs ++ []) (us ++ []) := r.append .nil
  have hl : (us ++ []).length = ps.length := by rw [← r2.length]; exact F.cnt _ _ _ _ q
  refine wpAny_call (codeAny_mono (F.go X.A X.stack s1 H1 ⟨us, []⟩ (us ++ []) (vs ++ []) Q E0 hgd hr I1.env0 (hb s1 us I1.kIn hl) r2 q) ?_)
  intro rr s' hq
  match rr, hq with
  | .error e, hq => exact hq.elim
  | .ok (.ret u), hq => exact I1.after hq
  | .ok .next, hq => exact hq.elim
  | .ok .brk, hq => exact hq.elim
  | .ok .cont, hq => exact hq.elim
end
theorem lawG {P : Program} {w : World} {K : PySem.W.Frag} {mg mb : Str → Option Value} {k : Nat} {fa a : Addr} {fd : FuncData} {x : Str} {sp : Sp}
    {s₁ : Shared} {vs : List Value} {ns : List Int} (KX : K.In s₁.heap) (hns : s₁.heap.Ns mainGlobals mg) (hb : s₁.heap.Ns builtinsNs mb)
    (hbb : ∀ x : Str, x ≠ "__name__" → mb x = bootBuiltins x) (hlim : s₁.heap.NoLimit) (hg : s₁.gens = #[])
    (ha : s₁.heap.get? a = some { cls := .type "list", data := .seq vs.toArray }) (hi : IntsAre vs ns) (hl : ns.length ≤ sizeLine)
    (hr : Room k callerA) (F : ∀ base : Heap, K.In base → base.Ns mainGlobals mg → FnG P w K mg base k fa fd [x] sp)
    (hbind : ∀ (s : Shared) (u : Value), BindsTo s fd ⟨[u], []⟩ [(x, u)])
    (hsp : ∀ H : Hp, Only H → SqL K H a (ns.map V.int) → sp [.ref a] H (fun v _ => v = .bl true) E0) :
    codeAny (model P w) callerA (.call (.ref fa) ⟨[.ref a], []⟩)
      (fun r s' => r = .ok (.ret (.bool true)) ∧ OldK s₁.heap s'.heap ∧ s'.os = s₁.os ∧ AllBare s'.gens) s₁ := by
  have rv := vals_ints hi
  have lenV := hi.length
  have core : ∀ H : Hp, Only H → SqL K H a (ns.map V.int) → HOk P w H s₁.heap → (∀ b, H b ≠ none → b = a) → (H a ≠ none → K.lookup a = none) →
      codeAny (model P w) callerA (.call (.ref fa) ⟨[.ref a], []⟩)
        (fun r s' => r = .ok (.ret (.bool true)) ∧ OldK s₁.heap s'.heap ∧ s'.os = s₁.os ∧ AllBare s'.gens) s₁ := by
    intro H hO hS hok hA hK
    have noD : ∀ {b : Addr} {o : Obj} {es : Array DictEntry} {ep : Nat}, s₁.heap.get? b = some o → o.data = .dict es ep → H b = none := by
      intro b o es ep e d
      match q : H b with
      | none => rfl
      | some u =>
        obtain rfl : b = a := hA b (by rw [q]; simp)
        rw [ha] at e
        cases e
        exact absurd d (by intro z; cases z)
    have nsK : ∀ {b : Addr} {m : Str → Option Value}, s₁.heap.Ns b m → (hidT s₁.heap H).Ns b m := by
      rintro b m ⟨o, es, ep, e, d, r⟩
      exact ⟨o, es, ep, hidT_get e (noD e d), d, r⟩
    have hKb : K.In (hidT s₁.heap H) := by
      intro b o e
      refine hidT_get (KX b o e) ?_
      match q : H b with
      | none => rfl
      | some u =>
        obtain rfl : b = a := hA b (by rw [q]; simp)
        rw [hK (by rw [q]; simp)] at e
        cases e
    have hM : Mod K mg (hidT s₁.heap H) := by
      obtain ⟨mc, h1, h2⟩ := hlim
      exact ⟨hKb, nsK hns, ⟨mb, nsK hb, hbb⟩, ⟨mc, nsK h1, h2⟩⟩
    have e0 : Env0 P w K mg (hidT s₁.heap H) callerA [] s₁ H :=
      ⟨rfl, hM, fun b o e => of_hidT e, Nat.le_of_eq (hidT_size _ _), trivial, (fun b hb => by cases hb), hok, .of_eq hg⟩
    refine codeAny_mono ((F _ hKb (nsK hns)).go callerA [] s₁ H ⟨[.ref a], []⟩ [.ref a] [.ref a] _ _ rfl hr e0 (hbind s₁ (.ref a)) (.cons rfl .nil) (hsp H hO hS)) ?_
    intro r s' h
    match r, h with
    | .error e, h => exact h.elim
    | .ok .next, h => exact h.elim
    | .ok .brk, h => exact h.elim
    | .ok .cont, h => exact h.elim
    | .ok (.ret u), h =>
      obtain ⟨v, H', os, bare, un, hok', r', q⟩ := h
      cases (show v = V.bl true from q)
      cases (show u = Value.bool true from r')
      refine ⟨rfl, OldK.of_keep ?_, os, bare⟩
      intro b o e
      match q : H b with
      | none => exact un.keep b o e q (by intro z; cases z) (by intro z; cases z)
      | some u =>
        rcases hO b with z | ⟨ob, xs, z⟩
        · rw [q] at z; cases z
        · obtain ⟨e1, _⟩ := hok b _ z
          obtain ⟨e2, _⟩ := hok' b _ (un.frzs b ob _ z)
          rw [e] at e1
          cases e1
          exact e2
  match hk : K.lookup a with
  | some o =>
    have e := KX a o hk
    rw [ha] at e
    cases e
    refine core (fun _ => none) (fun _ => .inl rfl) (.inr ⟨_, vs.toArray, _, hk, rfl, rfl, rfl, ?_, by simpa using rv⟩) (fun b u z => by cases z) (fun b z => absurd rfl z) (fun z => absurd rfl z)
    rw [List.size_toArray, lenV]; exact hl
  | none =>
    let HA : Hp := fun b => if b = a then some (.frz { cls := .type "list", data := .seq vs.toArray } (.lst (ns.map V.int))) else none
    have at_a : HA a = some (.frz { cls := .type "list", data := .seq vs.toArray } (.lst (ns.map V.int))) := if_pos rfl
    have at_ne : ∀ b, b ≠ a → HA b = none := fun b h => if_neg h
    refine core HA ?_ (.inl (.inr ⟨_, at_a⟩)) ?_ ?_ (fun _ => hk)
    · intro b
      by_cases hb : b = a
      · subst hb; exact .inr ⟨_, _, at_a⟩
      · exact .inl (at_ne b hb)
    · intro b u z
      by_cases hb : b = a
      · subst hb
        rw [at_a] at z
        cases z
        exact ⟨ha, by rw [List.length_map]; exact hl, vs, _, rv, ha⟩
      · rw [at_ne b hb] at z; cases z
    · intro b z
      by_cases hb : b = a
      · exact hb
      · exact absurd (at_ne b hb) z
theorem walkG {l : PySem.W.OpenLaw} {n k : Nat} {q : Program} {loose : List Str} {XP : (Str → Option Value) → Heap → Prop} {YP : World → Heap → Prop}
    {d : DefRec} {K : Params → PySem.W.Frag} {sp : World → Sp} {x : Str} (hn : l.most = some n) (hn2 : n ≤ sizeLine) (hdf : d.params.defaults = [])
    (hr : Room k callerA) (hY : ∀ (w : World) (h : Heap), YP w h → (K w.params).In h)
    (F : ∀ (w : World) (mg : Str → Option Value) (fa : Addr) (h : Heap), (K w.params).In h → h.Ns mainGlobals mg → mg d.name = some (.ref fa) →
      ∃ fd : FuncData, (∀ (s : Shared) (u : Value), BindsTo s fd ⟨[u], []⟩ [(x, u)]) ∧
        ∀ base : Heap, (K w.params).In base → base.Ns mainGlobals mg → FnG l.prog w (K w.params) mg base k fa fd [x] (sp w))
    (hsp : ∀ (w : World) (H : Hp) (a : Addr) (ns : List Int), ns.length ≤ n → (∀ z ∈ ns, Builtin.Int.intBits z ≤ 1048576) → Only H →
      SqL (K w.params) H a (ns.map V.int) → sp w [.ref a] H (fun v _ => v = .bl true) E0) :
    PySem.W.WalkO q loose XP YP l.row.toRowW d [] (fun f vs => PySem.call f vs) := by
  refine Att.attach_callB hn hdf ?_
  intro w s₀ s₁ mg mb fa o pm cd doc a vs ns G Y ho hd hcd hmg hobj hints hlen hbits hg
  have KX := hY w _ Y
  obtain ⟨fd, hb, hF⟩ := F w mg fa _ KX G.T.g hmg
  exact lawG KX G.T.g G.T.b G.T.builtins G.T.nolimit hg hobj hints (Nat.le_trans hlen hn2) hr hF hb (fun H hO hS => hsp w H a ns hlen hbits hO hS)

/-! repr of data -/
theorem call_reprD {X : Cx} (hg : X.A.guards = some []) (hu : X.A.units + 70 < cLine) : CallR X (.builtin "repr")
    (fun xs H Q => ∃ a d, xs = [.ref a] ∧ Dp X.K H (.ref a) d ∧ d.showable = true ∧ d.hasDict = false ∧ d.depth ≤ 60 ∧
      d.shown.length ≤ sizeLine ∧ Q (.str d.shown) H) := by
  intro pins s σ H xs us Q I r h
  obtain ⟨a, d, rfl, hd, h1, h2, h3, h4, q⟩ := h
  obtain ⟨u, rfl, rfl⟩ := vals1 r
  obtain ⟨as, rd⟩ := Dp.reads I d _ _ hd rfl
  exact repr_of_reads' rd h1 (PyData.noDict_hsm h2) hg (by omega) (fun _ _ e => e) (fun h' u tk hk => ⟨.str _, H, I.kept hk, ⟨_, rfl⟩, q⟩) h4
end Pv

namespace Pv
open PySem PySem.Spec PyProof.Rows L2
theorem tup_mul0 (l : Addr) (items : Array Value) (n : Nat) (dd : Option Addr) (sl : Array (Option Value)) (u : Tok) (hi : items.isEmpty = false) :
    Meets (Builtin.«tuple.__mul__» ⟨[.ref l, .int ((0 : Nat) : Int) u], []⟩) (fun _ R s => s.heap.get? l = some { cls := .type "tuple", dict := dd, data := .seq items n, slots := sl } ∧
      R (.ok (.ret (Value.ref s.heap.objs.size))) { s with heap := s.heap.push { cls := Value.type "tuple", data := Data.seq #[] }, toks := s.toks }) :=
  .of_wp fun prog w A R s h => by
    obtain ⟨hp, g, d, tk, os⟩ := s
    obtain ⟨hl, h⟩ := h
    have f1 := AutoSeq1.idx_int
    wp_walk using AutoSeq1.wpAny_loadPart' hl
    repeat (first
      | (refine wpAny_ite_false (decide_eq_false (by simp [hi])) ?_; wp_walk using AutoSeq1.wpAny_loadPart' hl)
      | (refine wpAny_ite_true (decide_eq_true (by simp [hi])) ?_; wp_walk using AutoSeq1.wpAny_loadPart' hl))
    exact ⟨_, rfl, h⟩
theorem tup_mul1 (l : Addr) (items : Array Value) (n : Nat) (dd : Option Addr) (sl : Array (Option Value)) (u : Tok) :
    Meets (Builtin.«tuple.__mul__» ⟨[.ref l, .int ((1 : Nat) : Int) u], []⟩) (fun _ R s => s.heap.get? l = some { cls := .type "tuple", dict := dd, data := .seq items n, slots := sl } ∧
      R (.ok (.ret (Value.ref l))) s) :=
  .of_wp fun prog w A R s h => by
    obtain ⟨hp, g, d, tk, os⟩ := s
    obtain ⟨hl, h⟩ := h
    have f1 := AutoSeq1.idx_int
    wp_walk using AutoSeq1.wpAny_loadPart' hl
    repeat (first
      | (refine wpAny_ite_false (decide_eq_false (by simp)) ?_; wp_walk using AutoSeq1.wpAny_loadPart' hl)
      | (refine wpAny_ite_true (decide_eq_true (by simp)) ?_; wp_walk using AutoSeq1.wpAny_loadPart' hl))
    exact ⟨_, rfl, h⟩
def rRepA (K : PySem.W.Frag) : R2 := fun x y H Q => ∃ (l : Addr) (k : Nat) (xs : List V), x = .ref l ∧ y = .int k ∧ SqT K H l xs ∧ xs ≠ [] ∧ k ≤ 1000 ∧ xs.length ≤ 1000 ∧
    (k = 1 → Q (.ref l) H) ∧ (k ≠ 1 → ∀ p, H p = none → Q (.ref p) (upd H p (.tup (List.replicate k xs).flatten)))
abbrev RC := List V → Hp → VK → Prop
def rLenQ (K : PySem.W.Frag) : RC := fun xs H Q => ∃ (p : Addr) (ys : List V), xs = [.ref p] ∧ (SqL K H p ys ∨ SqT K H p ys) ∧ Q (.int ys.length) H
def rTupQ (K : PySem.W.Frag) : RC := fun xs H Q => ∃ (p : Addr) (ys : List V), xs = [.ref p] ∧ ((SqL K H p ys ∧ ∀ l, H l = none → Q (.ref l) (upd H l (.tup ys))) ∨ (SqT K H p ys ∧ Q (.ref p) H))
section
variable {X : Cx}
theorem call_lenQ : CallR X (.builtin "len") (rLenQ X.K) := call_len_seq
theorem call_tupQ : CallR X (.type "tuple") (rTupQ X.K) := call_tuple_of
/-- o[i] of a list, for o[i] += e -/
theorem get_list : PGet X (fun o i H Q => ∃ (p : Addr) (xs : List V) (j : Nat) (v : V), o = .ref p ∧ i = .int j ∧ SqL X.K H p xs ∧ xs[j]? = some v ∧ Q v H) := by
  intro pins s σ H o i ov iv Q I ro ri h
  obtain ⟨p, xs, j, v, rfl, rfl, hq, he, q⟩ := h
  cases ro
  obtain ⟨t, rfl⟩ := ri
  obtain ⟨its, r, pl, hz⟩ := I.list hq
  obtain ⟨u, eu, ru⟩ := r.get he
  have hj : j < its.length := (List.getElem?_eq_some_iff.mp eu).1
  have hl := r.length
  have hn := line63
  exact wpAny_getItem_list pl.isList (by omega) (by omega) (by simpa using eu) ⟨v, H, I, ru, q⟩
/-- tuple * int -/
theorem op_repA : OpR X (binaryOp .Mult) (rRepA X.K) := by
  intro pins s σ H x y v u Q I rx ry h
  obtain ⟨l, k, xs, rfl, rfl, hT, hne, h2, hz, q1, q2⟩ := h
  by_cases hk2 : 2 ≤ k
  · exact op_repT pins s σ H _ _ v u Q I rx ry ⟨l, k, xs, rfl, rfl, hT, hne, by omega, by omega, hz, by simpa using q2 (by omega)⟩
  cases rx
  obtain ⟨t, rfl⟩ := ry
  obtain ⟨its, r, ⟨⟨cls, dd, data, sl⟩, ho, hc, n, hd⟩, hs⟩ := I.tuple hT
  simp only at hc hd
  subst hc hd
  have hi : its.toArray.isEmpty = false := by
    cases its with
    | nil => exact absurd (List.eq_nil_of_length_eq_zero (by simpa using r.length)) hne
    | cons a b => rfl
  refine wpAny_binaryOp_repeat_ref (T := "tuple") (U := "int") (by decide) ⟨_, ho, rfl⟩ (fun s' => typeIs_int s' k t) noFill_tuple_mul F.fills_int_mul F.slot_int_rmul repeat_tuple F.slot_int_index.lookup
    (call_meets F.slot_int_rmul (typeIs_int s k t) F.entry_int_rmul (F.args_int_rmul_2 _ _) (int_rmul_tuple k t l its.toArray n dd sl)
      ⟨ho, rfl, ⟨_, ho, rfl⟩, ?_⟩)
  obtain hk | hk : k = 0 ∨ k = 1 := by omega
  · subst hk
    refine call_meets F.slot_tuple_mul (show s.TypeIs (.ref l) "tuple" from ⟨_, ho, rfl⟩) F.entry_tuple_mul (F.args_tuple_mul_2 _ _) (tup_mul0 l its.toArray n dd sl t hi) ⟨ho, ?_⟩
    refine ⟨.ref s.heap.objs.size, _, I.laid (t' := s.toks) (o := .tup []) (fun b ob q => Heap.get?_push_of_some _ q) (Nat.le_refl _) ?_, rfl, q2 (by decide) _ (I.hok.fresh (Nat.le_refl _))⟩
    exact ⟨Nat.zero_le _, [], .nil, IsTup.new _ _⟩
  · subst hk
    exact call_meets F.slot_tuple_mul (show s.TypeIs (.ref l) "tuple" from ⟨_, ho, rfl⟩) F.entry_tuple_mul (F.args_tuple_mul_2 _ _) (tup_mul1 l its.toArray n dd sl t) ⟨ho, ⟨.ref l, H, I, rfl, q1 rfl⟩⟩
/-- sum of a tuple of ints -/
theorem call_sumT (hc : X.calm = true) : CallR X (.builtin "sum") (fun xs H Q => ∃ (a : Addr) (ns : List Int), xs = [.ref a] ∧ SqT X.K H a (ns.map V.int) ∧ Q (.int ns.sum) H) := by
  intro pins s σ H xs us Q I r h
  obtain ⟨a, ns, rfl, hT, q⟩ := h
  obtain ⟨u, rfl, rfl⟩ := vals1 r
  obtain ⟨its, rv, ht, hz⟩ := I.tuple hT
  have hi : IntsAre its ns := rv.ints
  obtain ⟨ys, e⟩ := hi.allInts.items
  have hn : numsOf (intItems ys).toList = ns := by rw [← e]; exact hi.numsOf
  rw [nums_intItems] at hn
  rw [e] at ht
  have ht' : s.heap.IsTuple a (intItems ys) := ht
  have hlt : a < s.heap.objs.size := by obtain ⟨_, z, _⟩ := ht; exact Heap.lt_size z
  refine call_sum_walkG (wpAny_pyIter_tuple ht' ?_)
  refine ⟨_, _, _, _, _, _, numAt ys, rfl, Walks.tuple (A := X.A.in1) (I.ok.hd hc) _ a (Nat.ne_of_lt hlt) (intItems ys), ⟨⟨_, Heap.get?_push_size _ rfl, rfl, rfl⟩, ht'.push _⟩, ?_, (fun _ _ => intItems_at), ?_⟩
  · intro b hb
    show b < (s.heap.push _).objs.size
    rw [Heap.size_push]
    simp only [List.mem_cons, List.not_mem_nil, or_false] at hb
    rcases hb with rfl | rfl
    · exact Nat.lt_succ_self _
    · exact Nat.lt_succ_of_lt hlt
  · intro h' tk t' hk
    have eq : preSum (numAt ys) (intItems ys).size = ns.sum := by
      rw [preSum_eq, List.take_of_length_le (by simp [intItems]), hn]
    rw [eq]
    refine ⟨.int _, H, I.kept (t' := tk) (h' := h') ?_, ⟨_, rfl⟩, q⟩
    intro b o eb
    refine hk b o (fun hm => ?_) (Heap.get?_push_of_some _ eb)
    exact absurd (Heap.lt_size eb) ((List.mem_singleton.mp hm) ▸ Nat.lt_irrefl _)
end
theorem walk_zipT {K : PySem.W.Frag} {a b : Addr} {xs ys : List V} {n : Nat} (hn : n = min xs.length ys.length) :
    Walk (RZ.ItzT K a b) n (fun H => SqT K H a xs ∧ SqT K H b ys) (YPair (fun i => xs[i]?) (fun i => ys[i]?)) := by
  subst hn
  constructor
  · rintro i H hi ⟨q1, q2⟩
    have h1 : i < xs.length := by omega
    have h2 : i < ys.length := by omega
    exact ⟨xs, ys, xs[i], ys[i], q1, q2, by simp [h1], by simp [h2]⟩
  · rintro H ⟨q1, q2⟩
    exact ⟨xs, ys, q1, q2, by omega⟩
  · rintro i H v H' _ ⟨q1, q2⟩ ⟨T, x, z, h1, h2, h3, h4, h5⟩
    exact ⟨T, x, z, h1, h2, h3, h4 xs q1, h5 ys q2⟩
end Pv

namespace Pv
open PySem PySem.Spec PyProof.Rows L2

/-! tuples never change -/
def TupK (H H' : Hp) : Prop := ∀ b xs, (H b = some (.tup xs) → H' b = some (.tup xs)) ∧ ∀ u, H b = some (.frz u (.tup xs)) → H' b = some (.frz u (.tup xs))
theorem TupK.refl (H : Hp) : TupK H H := fun _ _ => ⟨id, fun _ => id⟩
theorem TupK.trans {H H1 H2 : Hp} (a : TupK H H1) (b : TupK H1 H2) : TupK H H2 := fun c xs => ⟨fun h => (b c xs).1 ((a c xs).1 h), fun u h => (b c xs).2 u ((a c xs).2 u h)⟩
theorem TupK.rd {H H' : Hp} (s : TupK H H') {b : Addr} {xs : List V} (h : Rd H b (.tup xs)) : Rd H' b (.tup xs) := by
  rcases h with h | ⟨o, h⟩
  · exact .inl ((s _ _).1 h)
  · exact .inr ⟨o, (s _ _).2 o h⟩
theorem TupK.of {H H' : Hp} (s : Same H H') : TupK H H' := fun _ _ => ⟨fun h => s _ _ h, fun _ h => s _ _ h⟩
theorem TupK.new {H : Hp} {p : Addr} {o : HO} (np : H p = none) : TupK H (upd H p o) := .of (sameNew np)
theorem TupK.put {H : Hp} {p : Addr} {o : HO} {ys : List V} (e : H p = some (.lst ys)) : TupK H (upd H p o) := by
  intro b xs
  refine ⟨fun h => ?_, fun u h => ?_⟩
  · rw [upd_ne (ne_of h e (by intro z; cases z))]; exact h
  · rw [upd_ne (ne_of h e (by intro z; cases z))]; exact h
theorem TupK.sq {K : PySem.W.Frag} {H H' : Hp} {a : Addr} {xs : List V} (s : TupK H H') (h : SqT K H a xs) : SqT K H' a xs := by
  rcases h with h | h
  · exact .inl (s.rd h)
  · exact .inr h

mutual
def tupOnly : PyData → Bool
  | .none | .bool _ | .int _ | .str _ => true
  | .tuple xs => tupOnlyAll xs
  | .list _ | .dict _ => false
def tupOnlyAll : List PyData → Bool
  | [] => true
  | x :: xs => tupOnly x && tupOnlyAll xs
end
mutual
theorem TupK.dp {K : PySem.W.Frag} {H H' : Hp} (s : TupK H H') : ∀ (d : PyData) (v : V), tupOnly d = true → Dp K H v d → Dp K H' v d
  | .none, v, _, h => by cases h; exact .non
  | .bool b, v, _, h => by cases h; exact .bl _
  | .int b, v, _, h => by cases h; exact .int _
  | .str b, v, _, h => by cases h; exact .str _
  | .tuple xs, v, t, h => by
    cases h with
    | tup hs ha => exact .tup (s.sq hs) (TupK.dpAll s xs _ (by simpa [tupOnly] using t) ha)
  | .list _, v, t, _ => by simp [tupOnly] at t
  | .dict _, v, t, _ => by simp [tupOnly] at t
theorem TupK.dpAll {K : PySem.W.Frag} {H H' : Hp} (s : TupK H H') : ∀ (ds : List PyData) (vs : List V), tupOnlyAll ds = true → DpAll K H vs ds → DpAll K H' vs ds
  | [], vs, _, h => by cases h; exact .nil
  | d :: ds, vs, t, h => by
    have t' : tupOnly d = true ∧ tupOnlyAll ds = true := by simpa [tupOnlyAll] using t
    cases h with
    | cons h1 h2 => exact .cons (TupK.dp s d _ t'.1 h1) (TupK.dpAll s ds _ t'.2 h2)
end
theorem tupOnlyAll_of {ds : List PyData} (h : ∀ d ∈ ds, tupOnly d = true) : tupOnlyAll ds = true := by
  induction ds with
  | nil => simp [tupOnlyAll]
  | cons d ds ih => simp [tupOnlyAll, h d (by simp), ih (fun e he => h e (by simp [he]))]

/-! data -/
abbrev Gp := List Int × Int
def dI (ns : List Int) : PyData := .tuple (ns.map .int)
def dGrp (g : Gp) : PyData := .tuple [dI g.1, .int g.2]
def dInst (cs : List Int) (gs : List Gp) : PyData := .tuple [dI cs, .tuple (gs.map dGrp)]
def dAsg (rows : List (List Int)) : PyData := .tuple (rows.map dI)
theorem to_ints (ns : List Int) : tupOnlyAll (ns.map PyData.int) = true := tupOnlyAll_of (by intro d hd; obtain ⟨n, _, rfl⟩ := List.mem_map.mp hd; simp [tupOnly])
theorem to_dI (ns : List Int) : tupOnly (dI ns) = true := by simp [dI, tupOnly, to_ints]
theorem to_dGrp (g : Gp) : tupOnly (dGrp g) = true := by simp [dGrp, tupOnly, tupOnlyAll, to_dI]
theorem to_grps (gs : List Gp) : tupOnlyAll (gs.map dGrp) = true := tupOnlyAll_of (by intro d hd; obtain ⟨n, _, rfl⟩ := List.mem_map.mp hd; exact to_dGrp n)
theorem to_rows (rs : List (List Int)) : tupOnlyAll (rs.map dI) = true := tupOnlyAll_of (by intro d hd; obtain ⟨n, _, rfl⟩ := List.mem_map.mp hd; exact to_dI n)
theorem to_dInst (cs : List Int) (gs : List Gp) : tupOnly (dInst cs gs) = true := by simp [dInst, tupOnly, tupOnlyAll, to_dI, to_grps]
theorem to_dAsg (rs : List (List Int)) : tupOnly (dAsg rs) = true := by simp [dAsg, tupOnly, to_rows]

section
variable {K : PySem.W.Frag} {H : Hp}
theorem DpAll.len : ∀ {vs : List V} {ds : List PyData}, DpAll K H vs ds → vs.length = ds.length
  | _, _, .nil => rfl
  | _, _, .cons _ t => by simp [DpAll.len t]
theorem DpAll.ints : ∀ {ns : List Int} {vs : List V}, DpAll K H vs (ns.map PyData.int) → vs = ns.map V.int
  | [], _, h => by cases h; rfl
  | n :: ns, _, h => by
    cases h with
    | cons h1 h2 => cases h1; rw [DpAll.ints h2]; rfl
theorem dp_ints : ∀ (ns : List Int), DpAll K H (ns.map V.int) (ns.map PyData.int)
  | [] => .nil
  | n :: ns => .cons (.int n) (dp_ints ns)
theorem DpAll.at : ∀ {vs : List V} {ds : List PyData} {i : Nat} {v : V}, DpAll K H vs ds → vs[i]? = some v → ∃ d, ds[i]? = some d ∧ Dp K H v d
  | _, _, _, _, .nil, e => by simp at e
  | _, _, 0, _, .cons h _, e => by simp at e; subst e; exact ⟨_, rfl, h⟩
  | _, _, i + 1, v, .cons _ t, e => by
    obtain ⟨d, h1, h2⟩ := DpAll.at (i := i) t (by simpa using e)
    exact ⟨d, by simpa using h1, h2⟩
theorem DpAll.snoc : ∀ {vs : List V} {ds : List PyData} {v : V} {d : PyData}, DpAll K H vs ds → Dp K H v d → DpAll K H (vs ++ [v]) (ds ++ [d])
  | _, _, _, _, .nil, h => .cons h .nil
  | _, _, _, _, .cons h t, h' => .cons h (DpAll.snoc t h')
theorem sq_dI {a : Addr} {ns : List Int} (h : Dp K H (.ref a) (dI ns)) : SqT K H a (ns.map V.int) := by
  cases h with
  | tup hs ha => rw [DpAll.ints ha] at hs; exact hs
theorem dI_sq {a : Addr} {ns : List Int} (h : SqT K H a (ns.map V.int)) : Dp K H (.ref a) (dI ns) := .tup h (dp_ints ns)
theorem dI_ref {v : V} {ns : List Int} (h : Dp K H v (dI ns)) : ∃ a, v = .ref a ∧ SqT K H a (ns.map V.int) := by
  cases h with
  | tup hs ha => rw [DpAll.ints ha] at hs; exact ⟨_, rfl, hs⟩
theorem grp_ref {v : V} {g : Gp} (h : Dp K H v (dGrp g)) : ∃ a p, v = .ref a ∧ SqT K H a [.ref p, .int g.2] ∧ SqT K H p (g.1.map V.int) := by
  cases h with
  | tup hs ha =>
    cases ha with
    | cons h1 h2 =>
      cases h2 with
      | cons h3 h4 =>
        cases h4
        cases h3
        obtain ⟨p, rfl, hp⟩ := dI_ref h1
        exact ⟨_, p, rfl, hs, hp⟩
theorem inst_open {v : V} {cs : List Int} {gs : List Gp} (h : Dp K H v (dInst cs gs)) :
    ∃ a c g xs, v = .ref a ∧ SqT K H a [.ref c, .ref g] ∧ SqT K H c (cs.map V.int) ∧ SqT K H g xs ∧ DpAll K H xs (gs.map dGrp) := by
  cases h with
  | tup hs ha =>
    cases ha with
    | cons h1 h2 =>
      cases h2 with
      | cons h3 h4 =>
        cases h4
        obtain ⟨c, rfl, hc⟩ := dI_ref h1
        cases h3 with
        | tup hg hx => exact ⟨_, c, _, _, rfl, hs, hc, hg, hx⟩
theorem asg_open {v : V} {rs : List (List Int)} (h : Dp K H v (dAsg rs)) : ∃ a xs, v = .ref a ∧ SqT K H a xs ∧ DpAll K H xs (rs.map dI) := by
  cases h with
  | tup hg hx => exact ⟨_, _, rfl, hg, hx⟩
end

/-! what repr wants of data -/
structure Fine (k B : Nat) (d : PyData) : Prop where
  sh : d.showable = true
  nd : d.hasDict = false
  dp : d.depth ≤ k
  ln : d.shown.length ≤ B
theorem Fine.mono {k k' B B' : Nat} {d : PyData} (h : Fine k B d) (hk : k ≤ k') (hB : B ≤ B') : Fine k' B' d := ⟨h.sh, h.nd, Nat.le_trans h.dp hk, Nat.le_trans h.ln hB⟩
theorem fine_int {i : Int} (h : i.natAbs < 10 ^ 20) : Fine 0 25 (.int i) := by
  refine ⟨?_, by simp [PyData.hasDict], by simp [PyData.depth], ?_⟩
  · simp only [PyData.showable, decide_eq_true_eq]
    have : i.natAbs.log2 < 100 := by
      by_cases h0 : i.natAbs = 0
      · rw [h0]; decide
      · exact (Nat.log2_lt h0).mpr (Nat.lt_trans h (by decide))
    omega
  · have e := int_text_length_le10 (k := 20) (by decide) h
    show (Str.ofString (toString i)).length ≤ 25
    rw [PySem.ofString_length]
    omega
theorem fine_all {k B : Nat} : ∀ {xs : List PyData}, (∀ x ∈ xs, Fine k B x) → PyData.showableAll xs = true ∧ PyData.hasDictAll xs = false ∧ PyData.depthAll xs ≤ k ∧ ((PyData.shownAll xs).map (·.length)).sum ≤ xs.length * B ∧ (PyData.shownAll xs).length = xs.length
  | [], _ => by simp [PyData.showableAll, PyData.hasDictAll, PyData.depthAll, PyData.shownAll]
  | x :: xs, h => by
    obtain ⟨h1, h2, h3, h4, h5⟩ := fine_all (xs := xs) (fun y hy => h y (by simp [hy]))
    have hx := h x (by simp)
    refine ⟨by simp [PyData.showableAll, hx.sh, h1], by simp [PyData.hasDictAll, hx.nd, h2], ?_, ?_, ?_⟩
    · simp only [PyData.depthAll]; have := hx.dp; omega
    · simp only [PyData.shownAll, List.map_cons, List.sum_cons, List.length_cons]; have := hx.ln; rw [Nat.succ_mul]; omega
    · simp [PyData.shownAll, h5]
theorem fine_tup {k B n : Nat} {xs : List PyData} (h : ∀ x ∈ xs, Fine k B x) (hn : xs.length ≤ n) : Fine (k + 1) (n * (B + 2) + 3) (.tuple xs) := by
  obtain ⟨h1, h2, h3, h4, h5⟩ := fine_all h
  refine ⟨by simp only [PyData.showable]; exact h1, by simp only [PyData.hasDict]; exact h2, by simp only [PyData.depth]; omega, ?_⟩
  simp only [PyData.shown]
  have e := tupleText_len_le (PyData.shownAll xs)
  rw [h5] at e
  have m : xs.length * (B + 2) ≤ n * (B + 2) := Nat.mul_le_mul_right _ hn
  rw [Nat.mul_add] at m
  omega
theorem fine_lst {k B n : Nat} {xs : List PyData} (h : ∀ x ∈ xs, Fine k B x) (hn : xs.length ≤ n) : Fine (k + 1) (n * (B + 2) + 3) (.list xs) := by
  obtain ⟨h1, h2, h3, h4, h5⟩ := fine_all h
  refine ⟨by simp only [PyData.showable]; exact h1, by simp only [PyData.hasDict]; exact h2, by simp only [PyData.depth]; omega, ?_⟩
  simp only [PyData.shown]
  have e := listText_len_le (PyData.shownAll xs)
  rw [h5] at e
  have m : xs.length * (B + 2) ≤ n * (B + 2) := Nat.mul_le_mul_right _ hn
  rw [Nat.mul_add] at m
  omega
theorem fine_dI {ns : List Int} {n : Nat} (h : ∀ i ∈ ns, i.natAbs < 10 ^ 20) (hn : ns.length ≤ n) : Fine 1 (n * 27 + 3) (dI ns) := by
  refine fine_tup (B := 25) ?_ (by simpa using hn)
  intro d hd
  obtain ⟨i, hi, rfl⟩ := List.mem_map.mp hd
  exact fine_int (h i hi)

/-! the drawing state of the law: a list of the cells, the rests and the turn -/
structure DS (H : Hp) (st c r : Addr) (t : Nat) : Prop where
  hs : H st = some (.lst [.ref c, .ref r, .int t])
  ex : ∃ cells rests : List Int, H c = some (.lst (cells.map V.int)) ∧ H r = some (.lst (rests.map V.int)) ∧ cells.length = rests.length ∧
    0 < cells.length ∧ cells.length ≤ 100 ∧ ∀ x ∈ rests, 0 ≤ x
  n1 : c ≠ r
  n2 : st ≠ c
  n3 : st ≠ r
def Ext (st r : Addr) (H H' : Hp) : Prop := ∀ b o, H b = some o → b ≠ st → b ≠ r → H' b = some o
section
variable {H H1 H2 : Hp} {st c r p : Addr} {t : Nat} {o : HO}
theorem Ext.trans (a : Ext st r H H1) (b : Ext st r H1 H2) : Ext st r H H2 := fun x o h n1 n2 => b x o (a x o h n1 n2) n1 n2
theorem Ext.of (s : Same H H1) : Ext st r H H1 := fun b o h _ _ => s b o h
theorem Ext.tup (d : DS H st c r t) (e : Ext st r H H1) : TupK H H1 := by
  obtain ⟨cells, rests, hc, hr, _⟩ := d.ex
  intro b xs
  refine ⟨fun h => ?_, fun u h => ?_⟩
  · exact e _ _ h (ne_of h d.hs (by intro z; cases z)) (ne_of h hr (by intro z; cases z))
  · exact e _ _ h (ne_of h d.hs (by intro z; cases z)) (ne_of h hr (by intro z; cases z))
theorem DS.same (d : DS H st c r t) (s : Same H H1) : DS H1 st c r t := by
  obtain ⟨cells, rests, hc, hr, q⟩ := d.ex
  exact ⟨s _ _ d.hs, ⟨cells, rests, s _ _ hc, s _ _ hr, q⟩, d.n1, d.n2, d.n3⟩
theorem DS.new (d : DS H st c r t) (np : H p = none) : DS (upd H p o) st c r t := d.same (sameNew np)
theorem DS.put (d : DS H st c r t) (h1 : p ≠ st) (h2 : p ≠ c) (h3 : p ≠ r) : DS (upd H p o) st c r t := by
  obtain ⟨cells, rests, hc, hr, q⟩ := d.ex
  exact ⟨by rw [upd_ne h1.symm]; exact d.hs, ⟨cells, rests, by rw [upd_ne h2.symm]; exact hc, by rw [upd_ne h3.symm]; exact hr, q⟩, d.n1, d.n2, d.n3⟩
/-- an address that was free while the state stood is none of its own -/
theorem DS.off (d : DS H st c r t) (np : H p = none) : p ≠ st ∧ p ≠ c ∧ p ≠ r := by
  obtain ⟨cells, rests, hc, hr, q⟩ := d.ex
  exact ⟨(ne_of_none d.hs np).symm, (ne_of_none hc np).symm, (ne_of_none hr np).symm⟩
end
end Pv

namespace Pv
open PySem PySem.Spec PyProof.Rows L2
/-! enumerate of a tuple -/
theorem enumT_new (l : Addr) (items : Array Value) (n : Nat) (dct : Option Addr) (sl : Array (Option Value)) :
    Meets (Builtin.«enumerate.__new__» ⟨[.type "enumerate", .ref l], []⟩) (fun _ R s =>
      s.heap.get? l = some { cls := .type "tuple", dict := dct, data := .seq items n, slots := sl } ∧
      R (.ok (.ret (.ref (s.heap.push { cls := .type "tuple_iterator", data := .fields #[.ref l, .int 0 0] }).objs.size)))
        { s with heap := Heap.push (s.heap.push { cls := .type "tuple_iterator", data := .fields #[.ref l, .int 0 0] }) { cls := .type "enumerate", data := .fields #[.none, .bool false, .ref s.heap.objs.size, rawInt 0, .none, .none] } }) :=
  .of_wp fun prog w A R s h => by
    obtain ⟨hp, g, d, tk, os⟩ := s
    obtain ⟨hl, h⟩ := h
    have hsub := sub_enumerate
    have hL : Heap.IsTuple (Shared.heap ⟨hp, g, d, tk, os⟩) l items := ⟨_, hl, rfl, n, rfl⟩
    wp_walk using AutoSeq1.wpAny_loadPart' hl
    refine wpAny_stack_any fun st => wpAny_pure ?_
    split
    · rename_i c _ _ _ _ _
      cases (c == Value.type "enumerate") <;>
        (wp_walk using AutoSeq1.wpAny_loadPart' hl, wpAny_pyIter_tuple hL; exact ⟨_, rfl, h⟩)
    · wp_walk using AutoSeq1.wpAny_loadPart' hl, wpAny_pyIter_tuple hL
      exact ⟨_, rfl, h⟩
theorem call_enumT {prog : Program} {w : World} {A : Around} {E : Value → Shared → Prop} {s : Shared} {l : Addr} {items : Array Value} {Q : Value → Shared → Prop} (hL : s.heap.IsTuple l items)
    (h : ∀ h', IsEnum h' (s.heap.objs.size + 1) s.heap.objs.size 0 .none → h'.IsTupleIter s.heap.objs.size l 0 →
      (∀ b o, s.heap.get? b = some o → h'.get? b = some o) → Q (.ref (s.heap.objs.size + 1)) { s with heap := h' }) :
    wpAny (model prog w) A (call (.type "enumerate") [.ref l]) Q E s := by
  obtain ⟨⟨c, dct, dt, sl⟩, hl, hc, n, hd⟩ := hL
  simp only at hc hd
  subst hc hd
  refine callType_new F.called_enumerate (by decide) (F.typeCall_enumerate_1 _) (F.newCall_enumerate_1 _) (fun obj => F.args_object_init_2 obj _) F.entry_enumerate_new (enumT_new l items n dct sl) ⟨hl, ?_⟩
  have hz : (s.heap.push { cls := .type "tuple_iterator", data := .fields #[.ref l, .int 0 0] }).objs.size = s.heap.objs.size + 1 := Heap.size_push ..
  show _ ∧ _
  rw [hz]
  have ge : IsEnum (Heap.push (s.heap.push { cls := .type "tuple_iterator", data := .fields #[.ref l, .int 0 0] }) { cls := .type "enumerate", data := .fields #[.none, .bool false, .ref s.heap.objs.size, rawInt 0, .none, .none] }) (s.heap.objs.size + 1) s.heap.objs.size 0 .none := by
    rw [← hz]
    exact Heap.get?_push_size _ rfl
  exact ⟨⟨_, ge, rfl⟩, h _ ge ⟨_, Heap.get?_push_of_some _ (Heap.get?_push_size _ rfl), rfl, rfl⟩ fun b o x => Heap.get?_push_of_some _ (Heap.get?_push_of_some _ x)⟩
def IteT (K : PySem.W.Frag) (a : Addr) : It :=
  ⟨fun i H => ∃ (xs : List V) (x : V), SqT K H a xs ∧ xs[i]? = some x,
   fun i H v H' => ∃ T x, v = .ref T ∧ H T = none ∧ H' = upd H T (.tup [.int (i : Nat), x]) ∧ ∀ xs, SqT K H a xs → xs[i]? = some x,
   fun i H => ∃ xs : List V, SqT K H a xs ∧ xs.length = i⟩
theorem tupLt {h : Heap} {a : Addr} {its : Array Value} (p : IsTup h a its) : a < h.objs.size := by obtain ⟨_, e, _⟩ := p; exact Heap.lt_size e
theorem turn_enumT {P : Program} {w : World} {K : PySem.W.Frag} {elts : List Expr} {kk : Nat} {tpos : Pos} (a e it : Addr) :
    Turn P w K (.Tuple elts kk tpos) (IteT K a) [e, it] e (fun i h => (∃ old, IsEnum h e it ((i : Nat) : Int) old) ∧ h.IsTupleIter it a i ∧ e ≠ it) where
  mem := by simp
  obj := by
    rintro i h ⟨⟨old, he⟩, ⟨o, ho, hc, hd⟩, _⟩ b hb
    simp only [List.mem_cons, List.not_mem_nil, or_false] at hb
    rcases hb with rfl | rfl
    · exact ⟨_, he, fun v q => nomatch q⟩
    · exact ⟨o, ho, fun v q => by rw [hd] at q; cases q⟩
  keep := by
    rintro i h h' ⟨⟨old, he⟩, hi, hne⟩ k
    exact ⟨⟨old, k e (by simp) _ he⟩, hi.at fun o q => k it (by simp) o q, hne⟩
  item := by
    intro X hP hw hK hc i pins s σ H E I hf st hg
    subst hP hw hK
    obtain ⟨⟨old, he⟩, hit, hne⟩ := st
    obtain ⟨xs, x, hq, hx⟩ := hg
    obtain ⟨its, rv, p, hz⟩ := I.tuple hq
    obtain ⟨u, hu, ru⟩ := rv.get hx
    have hel : e < s.heap.objs.size := Heap.lt_size he
    have hil : it < s.heap.objs.size := by obtain ⟨_, q, _⟩ := hit; exact Heap.lt_size q
    have nea : e ≠ a := by
      rintro rfl
      obtain ⟨o, ho, hcl, _⟩ := p
      rw [he] at ho
      cases ho
      injection hcl with hcl
      exact absurd hcl (by decide)
    have nia : a ≠ it := by
      rintro rfl
      obtain ⟨o, ho, hcl, _⟩ := p
      obtain ⟨o2, ho2, hcl2, _⟩ := hit
      rw [ho] at ho2
      cases ho2
      rw [hcl] at hcl2
      injection hcl2 with hcl2
      exact absurd hcl2 (by decide)
    have hlt : i < its.toArray.size := by have := (List.getElem?_eq_some_iff.mp hu).1; simpa using this
    refine wpAny_pyNext_enum_itemD (Draws.tuple (A := X.A.in1) (I.ok.hd hc) it a nia its.toArray) he ⟨hit, p⟩ hlt hne (by simp [hne, nea]) ?_
    intro u' h' tk hu' ho st' hT hsz hk
    have hu2 : its.toArray[i]? = some u' := hu'
    have : u' = u := by
      have h3 : its.toArray[i]? = some u := by simpa using hu
      rw [h3] at hu2
      exact (Option.some.inj hu2).symm
    subst this
    refine ⟨_, rfl, wpAny_letOwnedTupleGo_enum (s := { s with heap := h', toks := tk + 1 }) ho fun h'' he' sb => ?_⟩
    have hT2 : h''.get? s.heap.objs.size = some { cls := .type "tuple", data := .seq #[.int i tk, u'] } := (sb.2 _ (Nat.ne_of_gt hel)).trans hT
    have new : ObjOk X.prog X.w (upd H s.heap.objs.size (.tup [.int (i : Nat), x])) h'' s.heap.objs.size (.tup [.int (i : Nat), x]) :=
      ⟨by show 2 ≤ sizeLine; decide, [.int i tk, u'], .cons ⟨_, rfl⟩ (.cons ru .nil), ⟨_, hT2, rfl, _, rfl⟩⟩
    have kk : ∀ b ob, b ∉ [e, it] → s.heap.get? b = some ob → h''.get? b = some ob := by
      intro b ob hb q
      have h1 : b ≠ e := fun z => hb (by simp [z])
      have h2 : b ≠ it := fun z => hb (by simp [z])
      exact (sb.2 b h1).trans (hk b ob h1 h2 q)
    have I1 : Inv X pins σ (upd H s.heap.objs.size (.tup [.int (i : Nat), x])) { s with heap := h'', toks := tk + 1 } :=
      I.turnedNew (ch := [e, it]) kk hf (Nat.le_refl _) new
    refine ⟨.ref s.heap.objs.size, _, I1, rfl, ⟨_, x, rfl, I.hok.fresh (Nat.le_refl _), rfl, fun ys hy => by rw [I.tuple_inj hy hq]; exact hx⟩, ⟨⟨u', ?_⟩, st'.1.at fun o q => (sb.2 it (Ne.symm hne)).trans q, hne⟩, fun b hb => ?_⟩
    · rw [show ((i + 1 : Nat) : Int) = (i : Int) + 1 by omega]; exact he'
    · have hb' : b < s.heap.objs.size := by
        simp only [List.mem_cons, List.not_mem_nil, or_false] at hb
        rcases hb with rfl | rfl <;> assumption
      rw [upd_ne (Nat.ne_of_lt hb')]
      exact (hf b hb).1
  done := by
    intro X hP hw hK hc i pins s σ H E I hf st hg
    subst hP hw hK
    obtain ⟨⟨old, he⟩, hit, hne⟩ := st
    obtain ⟨xs, hq, hx⟩ := hg
    obtain ⟨its, rv, p, hz⟩ := I.tuple hq
    obtain ⟨f0, f1, f2, f3, f4, f5⟩ := hf it (by simp)
    have hl := rv.length
    have nia : a ≠ it := by
      rintro rfl
      obtain ⟨o, ho, hcl, _⟩ := p
      obtain ⟨o2, ho2, hcl2, _⟩ := hit
      rw [ho] at ho2
      cases ho2
      rw [hcl] at hcl2
      injection hcl2 with hcl2
      exact absurd hcl2 (by decide)
    have hi : i = its.toArray.size := by rw [List.size_toArray]; omega
    refine wpAny_pyNext_enum_endD (Draws.tuple (A := X.A.in1) (I.ok.hd hc) it a nia its.toArray) he (by rw [← hi]; exact ⟨hit, p⟩) fun h' eb => ⟨rfl, I.turned (t' := s.toks) (fun b o hb q => eb b o hb q) f0 f1 f3 f4 f5⟩
  self := by
    rintro A i s Q E ⟨⟨_, he⟩, _⟩ h
    exact wpAny_pyIter_enum he h
def iEnumT (K : PySem.W.Frag) (ta : TA) : TI := fun σ H R => ta σ H fun vs H1 => ∃ a xs, vs = [.ref a] ∧ SqT K H1 a xs ∧ R (IteT K a) H1
theorem pi_enumT {X : Cx} {e : Expr} {ta : TA} {p pos tpos : Pos} {elts : List Expr} {kk : Nat} (hg : Gl X "enumerate") (hm : X.mg "enumerate" = none) (ha : PA X [e] ta)
    (hs : starEach [e] X.env = [(false, eval e X.env)] := by rfl) : PI X (.Tuple elts kk tpos) (.Call (.Name "enumerate" p) [e] [] pos) (iEnumT X.K ta) := by
  constructor
  intro pins s σ H R I h
  refine Call_ (ld_blt I hg hm boot_enumerate (PyProof.Rows.callWith_type1 (thn (ha.run pos pins s σ H _ I h) ?_) hs rfl))
  rintro us s1 ⟨vs, H1, I1, r1, a, xs, rfl, hq, q⟩
  obtain ⟨u, rfl, rfl⟩ := vals1 r1
  obtain ⟨its, rv, p', hz⟩ := I1.tuple hq
  refine call_enumT (show s1.heap.IsTuple a its.toArray from p') fun h' he hit hk => wpAny_pyIter_enum he ?_
  have I2 : Inv X pins σ H1 { s1 with heap := h' } := I1.kept (t' := s1.toks) hk
  refine ⟨s1.heap.objs.size + 1, [s1.heap.objs.size + 1, s1.heap.objs.size], _, _, H1, rfl, I2, turn_enumT a (s1.heap.objs.size + 1) s1.heap.objs.size, ⟨⟨.none, he⟩, hit, Nat.succ_ne_self _⟩, ?_, q⟩
  intro b hb
  have hle : s1.heap.objs.size ≤ b := by
    simp only [List.mem_cons, List.not_mem_nil, or_false] at hb
    rcases hb with rfl | rfl <;> omega
  exact I1.fpOk hle (I1.hok.fresh hle)
theorem walk_enumT {K : PySem.W.Frag} {a : Addr} {xs : List V} : Walk (IteT K a) xs.length (fun H => SqT K H a xs) (YPair (fun i => some (.int (i : Nat))) (fun i => xs[i]?)) := by
  constructor
  · intro i H hi q
    exact ⟨xs, xs[i], q, by simp [hi]⟩
  · intro H q
    exact ⟨xs, q, rfl⟩
  · rintro i H v H' _ q ⟨T, x, h1, h2, h3, h4⟩
    exact ⟨T, _, x, h1, h2, h3, rfl, h4 xs q⟩
/-! zip of a list and a tuple -/
abbrev zm1 (h : Heap) (l1 : Addr) : Heap := h.push { cls := .type "list_iterator", data := .fields #[.ref l1, .int 0 0] }
abbrev zm2 (h : Heap) (l1 l2 : Addr) : Heap := (zm1 h l1).push { cls := .type "tuple_iterator", data := .fields #[.ref l2, .int 0 0] }
abbrev zm3 (h : Heap) (l1 l2 : Addr) : Heap := (zm2 h l1 l2).push { cls := .type "tuple", data := .seq #[.ref h.objs.size, .ref (zm1 h l1).objs.size] }
abbrev zm4 (h : Heap) (l1 l2 : Addr) : Heap := (zm3 h l1 l2).push { cls := .type "tuple", data := .seq #[.none, .none] }
abbrev zm5 (h : Heap) (l1 l2 : Addr) : Heap := (zm4 h l1 l2).push { cls := .type "zip", data := .fields #[.none, .bool false, .bool false, .ref (zm2 h l1 l2).objs.size, .ref (zm3 h l1 l2).objs.size] }
theorem zipM_new (l1 l2 : Addr) (xs ys : Array Value) :
    Meets (Builtin.«zip.__new__» ⟨[.type "zip", .ref l1, .ref l2], []⟩) (fun _ R s => s.heap.IsList l1 xs ∧ s.heap.IsTuple l2 ys ∧
      R (.ok (.ret (.ref (zm4 s.heap l1 l2).objs.size))) { s with heap := zm5 s.heap l1 l2 }) :=
  .of_wp fun prog w A R s h => by
    obtain ⟨hp, g, d, tk, os⟩ := s
    obtain ⟨hl1, hl2, h⟩ := h
    have hsub := sub_zip
    have hL1 : Heap.IsList (Shared.heap ⟨hp, g, d, tk, os⟩) l1 xs := hl1
    have hL2 : Heap.IsTuple (Shared.heap ⟨zm1 hp l1, g, d, tk, os⟩) l2 ys := Heap.IsTuple.push hl2 _
    wp_walk using wpAny_pyIter_list hL1, wpAny_pyIter_tuple hL2
    exact ⟨_, rfl, h⟩
theorem call_zipM {prog : Program} {w : World} {A : Around} {E : Value → Shared → Prop} {s : Shared} {l1 l2 : Addr} {xs ys : Array Value} {Q : Value → Shared → Prop} (hl1 : s.heap.IsList l1 xs) (hl2 : s.heap.IsTuple l2 ys)
    (h : ∀ h', IsZip h' (s.heap.objs.size + 4) (s.heap.objs.size + 2) (s.heap.objs.size + 3) .none → IsPair h' (s.heap.objs.size + 2) (.ref s.heap.objs.size) (.ref (s.heap.objs.size + 1)) →
      IsPair h' (s.heap.objs.size + 3) .none .none → h'.IsListIter s.heap.objs.size l1 0 → h'.IsTupleIter (s.heap.objs.size + 1) l2 0 →
      (∀ c o, s.heap.get? c = some o → h'.get? c = some o) → Q (.ref (s.heap.objs.size + 4)) { s with heap := h' }) :
    wpAny (model prog w) A (call (.type "zip") [.ref l1, .ref l2]) Q E s := by
  refine callType_new F.called_zip (by decide) (F.typeCall_zip_2 _ _) (F.newCall_zip_2 _ _) (fun obj => F.args_object_init_3 obj _ _) F.entry_zip_new (zipM_new l1 l2 xs ys) ⟨hl1, hl2, ?_⟩
  have z1 : (zm1 s.heap l1).objs.size = s.heap.objs.size + 1 := Heap.size_push ..
  have z2 : (zm2 s.heap l1 l2).objs.size = s.heap.objs.size + 2 := by rw [Heap.size_push, z1]
  have z3 : (zm3 s.heap l1 l2).objs.size = s.heap.objs.size + 3 := by rw [Heap.size_push, z2]
  have z4 : (zm4 s.heap l1 l2).objs.size = s.heap.objs.size + 4 := by rw [Heap.size_push, z3]
  have g5 : (zm5 s.heap l1 l2).get? (zm4 s.heap l1 l2).objs.size = some _ := Heap.get?_push_size _ rfl
  have g4 : (zm5 s.heap l1 l2).get? (zm3 s.heap l1 l2).objs.size = some _ := Heap.get?_push_of_some _ (Heap.get?_push_size _ rfl)
  have g3 : (zm5 s.heap l1 l2).get? (zm2 s.heap l1 l2).objs.size = some _ := Heap.get?_push_of_some _ (Heap.get?_push_of_some _ (Heap.get?_push_size _ rfl))
  have g2 : (zm5 s.heap l1 l2).get? (zm1 s.heap l1).objs.size = some _ := Heap.get?_push_of_some _ (Heap.get?_push_of_some _ (Heap.get?_push_of_some _ (Heap.get?_push_size _ rfl)))
  have g1 : (zm5 s.heap l1 l2).get? s.heap.objs.size = some _ := Heap.get?_push_of_some _ (Heap.get?_push_of_some _ (Heap.get?_push_of_some _ (Heap.get?_push_of_some _ (Heap.get?_push_size _ rfl))))
  show _ ∧ _
  rw [z2, z3, z4] at g5
  rw [z1, z2] at g3
  rw [z3] at g4
  rw [z1] at g2
  rw [z4]
  refine ⟨⟨_, g5, rfl⟩, h _ g5 g3 g4 ⟨_, g1, rfl, rfl⟩ ⟨_, g2, rfl, rfl⟩ ?_⟩
  intro c o x
  exact Heap.get?_push_of_some _ (Heap.get?_push_of_some _ (Heap.get?_push_of_some _ (Heap.get?_push_of_some _ (Heap.get?_push_of_some _ x))))
def ItzM (K : PySem.W.Frag) (a b : Addr) : It :=
  ⟨fun i H => ∃ (xs ys : List V) (x y : V), SqL K H a xs ∧ SqT K H b ys ∧ xs[i]? = some x ∧ ys[i]? = some y,
   fun i H v H' => ∃ T x y, v = .ref T ∧ H T = none ∧ H' = upd H T (.tup [x, y]) ∧ (∀ xs, SqL K H a xs → xs[i]? = some x) ∧ ∀ ys, SqT K H b ys → ys[i]? = some y,
   fun i H => ∃ xs ys : List V, SqL K H a xs ∧ SqT K H b ys ∧ min xs.length ys.length = i⟩
theorem sepM {z TI TO i1 i2 a b : Addr} (D : ZipApart z TI TO i1 i2 a b) : ZipSep2 z TI TO i1 i2 [i1, a] [i2, b] := by
  refine ⟨D.TIz, D.TOz, D.TITO, D.TIi1, by simp, ?_, ?_, D.TIi2, by simp, ?_, ?_, ?_, ?_⟩ <;>
    simp only [List.mem_cons, List.not_mem_nil, or_false, not_or]
  · exact ⟨D.i1z.symm, D.l1z.symm⟩
  · exact ⟨D.TOi1, D.l1TO.symm⟩
  · exact ⟨D.i2z.symm, D.l2z.symm⟩
  · exact ⟨D.TOi2, D.l2TO.symm⟩
  · exact ⟨D.i12, D.l2i1.symm⟩
  · exact ⟨D.i12.symm, D.l1i2.symm⟩
theorem turn_zipM {P : Program} {w : World} {K : PySem.W.Frag} {elts : List Expr} {kk : Nat} {tpos : Pos} {a b z TI TO i1 i2 : Addr} (D : ZipApart z TI TO i1 i2 a b) :
    Turn P w K (.Tuple elts kk tpos) (ItzM K a b) [z, TI, TO, i1, i2] z
      (fun i h => IsZip h z TI TO .none ∧ IsPair h TI (.ref i1) (.ref i2) ∧ (∃ x y, IsPair h TO x y) ∧ h.IsListIter i1 a i ∧ h.IsTupleIter i2 b i) where
  mem := by simp
  obj := by
    rintro i h ⟨hz, hTI, ⟨x, y, hTO⟩, ⟨o1, e1, _, d1⟩, ⟨o2, e2, _, d2⟩⟩ c hc
    simp only [List.mem_cons, List.not_mem_nil, or_false] at hc
    rcases hc with rfl | rfl | rfl | rfl | rfl
    · exact ⟨_, hz, fun v q => nomatch q⟩
    · exact ⟨_, hTI, fun v q => nomatch q⟩
    · exact ⟨_, hTO, fun v q => nomatch q⟩
    · exact ⟨o1, e1, fun v q => by rw [d1] at q; cases q⟩
    · exact ⟨o2, e2, fun v q => by rw [d2] at q; cases q⟩
  keep := by
    rintro i h h' ⟨hz, hTI, ⟨x, y, hTO⟩, h1, h2⟩ k
    exact ⟨k z (by simp) _ hz, k TI (by simp) _ hTI, ⟨x, y, k TO (by simp) _ hTO⟩, h1.at fun o q => k i1 (by simp) o q, h2.at fun o q => k i2 (by simp) o q⟩
  item := by
    intro X hP hw hK hc i pins s σ H E I hf st hg
    subst hP hw hK
    obtain ⟨hz, hTI, ⟨x0, y0, hTO⟩, h1, h2⟩ := st
    obtain ⟨xs, ys, x, y, hqx, hqy, hx, hy⟩ := hg
    obtain ⟨its, rv, p, _⟩ := I.list hqx
    obtain ⟨its2, rv2, p2, _⟩ := I.tuple hqy
    obtain ⟨u, hu, ru⟩ := rv.get hx
    obtain ⟨u2, hu2, ru2⟩ := rv2.get hy
    have hzl : z < s.heap.objs.size := Heap.lt_size hz
    have hl1 : i < its.toArray.size := by have := (List.getElem?_eq_some_iff.mp hu).1; simpa using this
    have hl2 : i < its2.toArray.size := by have := (List.getElem?_eq_some_iff.mp hu2).1; simpa using this
    refine wpAny_pyNext_zipD2_item (sepM D) (Draws.list (A := X.A.in1) (I.ok.hd hc) i1 a D.l1i1 its.toArray) (Draws.tuple (A := X.A.in1) (I.ok.hd hc) i2 b D.l2i2 its2.toArray) hz hTI hTO ⟨h1, p.isList⟩ ⟨h2, p2⟩ hl1 hl2 ?_
    intro v1 v2 h' tk hv1 hv2 z' TO' st1 st2 hT hsz hk
    have e1 : v1 = u := by
      have h3 : its.toArray[i]? = some u := by simpa using hu
      rw [show its.toArray[i]? = some v1 from hv1] at h3
      exact Option.some.inj h3
    have e2 : v2 = u2 := by
      have h3 : its2.toArray[i]? = some u2 := by simpa using hu2
      rw [show its2.toArray[i]? = some v2 from hv2] at h3
      exact Option.some.inj h3
    subst e1 e2
    refine ⟨_, rfl, wpAny_letOwnedTupleGo_zip (s := { s with heap := h', toks := tk }) z' fun h'' z'' sb => ?_⟩
    have hT2 : h''.get? s.heap.objs.size = some { cls := .type "tuple", data := .seq #[v1, v2] } := (sb.2 _ (Nat.ne_of_gt hzl)).trans hT
    have new : ObjOk X.prog X.w (upd H s.heap.objs.size (.tup [x, y])) h'' s.heap.objs.size (.tup [x, y]) :=
      ⟨by show 2 ≤ sizeLine; decide, [v1, v2], .cons ru (.cons ru2 .nil), ⟨_, hT2, rfl, _, rfl⟩⟩
    have kk : ∀ c o, c ∉ [z, TI, TO, i1, i2] → s.heap.get? c = some o → h''.get? c = some o := by
      intro c o hb q
      simp only [List.mem_cons, List.not_mem_nil, or_false, not_or] at hb
      exact (sb.2 c hb.1).trans (hk c o hb.1 hb.2.2.1 hb.2.2.2.1 hb.2.2.2.2 q)
    have I1 : Inv X pins σ (upd H s.heap.objs.size (.tup [x, y])) { s with heap := h'', toks := tk } :=
      I.turnedNew (t' := tk) (ch := [z, TI, TO, i1, i2]) kk hf (Nat.le_refl _) new
    refine ⟨.ref s.heap.objs.size, _, I1, rfl, ⟨_, x, y, rfl, I.hok.fresh (Nat.le_refl _), rfl, fun l hl => by rw [I.list_inj hl hqx]; exact hx, fun l hl => by rw [I.tuple_inj hl hqy]; exact hy⟩, ⟨z'', ?_, ⟨v1, v2, ?_⟩, ?_, ?_⟩, ?_⟩
    · exact (sb.2 _ D.TIz).trans (hk _ _ D.TIz D.TITO D.TIi1 D.TIi2 hTI)
    · exact (sb.2 _ D.TOz).trans TO'
    · exact st1.1.at fun o q => (sb.2 _ D.i1z).trans q
    · exact st2.1.at fun o q => (sb.2 _ D.i2z).trans q
    · intro c hcm
      have hlt : c < s.heap.objs.size := by
        simp only [List.mem_cons, List.not_mem_nil, or_false] at hcm
        rcases hcm with rfl | rfl | rfl | rfl | rfl
        · exact hzl
        · exact Heap.lt_size hTI
        · exact Heap.lt_size hTO
        · obtain ⟨_, e1, _⟩ := h1; exact Heap.lt_size e1
        · obtain ⟨_, e2, _⟩ := h2; exact Heap.lt_size e2
      rw [upd_ne (Nat.ne_of_lt hlt)]
      exact (hf c hcm).1
  done := by
    intro X hP hw hK hc i pins s σ H E I hf st hg
    subst hP hw hK
    obtain ⟨hz, hTI, ⟨x0, y0, hTO⟩, h1, h2⟩ := st
    obtain ⟨xs, ys, hqx, hqy, hend⟩ := hg
    obtain ⟨its, rv, p, _⟩ := I.list hqx
    obtain ⟨its2, rv2, p2, _⟩ := I.tuple hqy
    have l1 := rv.length
    have l2 := rv2.length
    refine wpAny_pyNext_zipD2_end (i := i) (sepM D) (Draws.list (A := X.A.in1) (I.ok.hd hc) i1 a D.l1i1 its.toArray) (Draws.tuple (A := X.A.in1) (I.ok.hd hc) i2 b D.l2i2 its2.toArray) hz hTI hTO ⟨h1, p.isList⟩ ⟨h2, p2⟩ (by simp; omega) (by simp; omega) (by simp; omega) ?_
    intro h' tk hk
    refine ⟨rfl, I.turnedL (t' := tk) (ch := [z, TI, TO, i1, i2]) ?_ hf⟩
    intro c o hb q
    simp only [List.mem_cons, List.not_mem_nil, or_false, not_or] at hb
    exact hk c o hb.1 hb.2.2.1 hb.2.2.2.1 hb.2.2.2.2 q
  self := fun A i s Q E st h => wpAny_pyIter_zip st.1 h
def iZipM (K : PySem.W.Frag) (ta : TA) : TI := fun σ H R => ta σ H fun vs H1 => ∃ a b xs ys, vs = [.ref a, .ref b] ∧ SqL K H1 a xs ∧ SqT K H1 b ys ∧ R (ItzM K a b) H1
theorem pi_zipM {X : Cx} {e e2 : Expr} {ta : TA} {p pos tpos : Pos} {elts : List Expr} {kk : Nat} (hg : Gl X "zip") (hm : X.mg "zip" = none) (ha : PA X [e, e2] ta)
    (hs : starEach [e, e2] X.env = (false, eval e X.env) :: starEach [e2] X.env := by rfl) (hpl : (backTo pos (starEach [e2] X.env)).any (·.1) = false := by rfl) :
    PI X (.Tuple elts kk tpos) (.Call (.Name "zip" p) [e, e2] [] pos) (iZipM X.K ta) := by
  constructor
  intro pins s σ H R I h
  refine Call_ (ld_blt I hg hm PyProof.Rows.boot_zip (PyProof.Rows.callWith_type1 (thn (ha.run pos pins s σ H _ I h) ?_) hs hpl))
  rintro us s1 ⟨vs, H1, I1, r1, a, b, xs, ys, rfl, hqx, hqy, q⟩
  obtain ⟨u, v, rfl, rfl, rfl⟩ := vals2 r1
  obtain ⟨its, rv, p1, _⟩ := I1.list hqx
  obtain ⟨its2, rv2, p2, _⟩ := I1.tuple hqy
  refine call_zipM p1.isList (show s1.heap.IsTuple b its2.toArray from p2) fun h' hz hTI hTO h1 h2 hk => wpAny_pyIter_zip hz ?_
  have I2 : Inv X pins σ H1 { s1 with heap := h' } := I1.kept (t' := s1.toks) hk
  refine ⟨s1.heap.objs.size + 4, [s1.heap.objs.size + 4, s1.heap.objs.size + 2, s1.heap.objs.size + 3, s1.heap.objs.size, s1.heap.objs.size + 1], _, _, H1, rfl, I2,
    turn_zipM (PySem.W.ktu_apart s1.heap.objs.size a b p1.lt (tupLt p2)), ⟨hz, hTI, ⟨_, _, hTO⟩, h1, h2⟩, ?_, q⟩
  intro c hcm
  have hle : s1.heap.objs.size ≤ c := by
    simp only [List.mem_cons, List.not_mem_nil, or_false] at hcm
    rcases hcm with rfl | rfl | rfl | rfl | rfl <;> omega
  exact I1.fpOk hle (I1.hok.fresh hle)
theorem walk_zipM {K : PySem.W.Frag} {a b : Addr} {xs ys : List V} {n : Nat} (hn : n = min xs.length ys.length) :
    Walk (ItzM K a b) n (fun H => SqL K H a xs ∧ SqT K H b ys) (YPair (fun i => xs[i]?) (fun i => ys[i]?)) := by
  subst hn
  constructor
  · rintro i H hi ⟨q1, q2⟩
    have h1 : i < xs.length := by omega
    have h2 : i < ys.length := by omega
    exact ⟨xs, ys, xs[i], ys[i], q1, q2, by simp [h1], by simp [h2]⟩
  · rintro H ⟨q1, q2⟩
    exact ⟨xs, ys, q1, q2, rfl⟩
  · rintro i H v H' _ ⟨q1, q2⟩ ⟨T, x, z, h1, h2, h3, h4, h5⟩
    exact ⟨T, x, z, h1, h2, h3, h4 xs q1, h5 ys q2⟩
end Pv

namespace Pv
open PySem PySem.Spec PyProof.Rows L2
theorem samePut {H H1 : Hp} {D : Addr} {o : HO} (s : Same H H1) (nD : H D = none) : Same H (upd H1 D o) := fun b z e => by rw [upd_ne (ne_of_none e nD)]; exact s b z e
theorem ty_sq {K : PySem.W.Frag} {H : Hp} {a : Addr} {xs : List V} (h : SqT K H a xs) : TyX K H (.ref a) (.type "tuple") := by
  rcases h with (h | ⟨o, h⟩) | ⟨o, its, n, h, hc, _⟩
  · exact .base (.tup h)
  · exact .fTuple h
  · exact .kTuple h hc
theorem small {n : Nat} (h : n ≤ 1000000) : n < sizeLine := Nat.lt_of_le_of_lt h (by decide)
def addAt (ls : List Int) (p x : Int) : List Int := ls.set p.toNat (ls.getD p.toNat 0 + x)
theorem addAt_len (ls : List Int) (p x : Int) : (addAt ls p x).length = ls.length := by simp [addAt]
theorem freeOf {H : Hp} {p b : Addr} {o : HO} (h : upd H p o b = none) : H b = none := by
  by_cases e : b = p
  · subst e; rw [upd_same] at h; cases h
  · rw [upd_ne e] at h; exact h
theorem ixN_nat {n j : Nat} (h : j < n) : ixN n (j : Int) = some j := by
  unfold ixN
  rw [if_pos (by omega), if_pos (by omega)]
  simp
theorem zip_take {α β : Type} : ∀ (n : Nat) (a : List α) (b : List β), (a.take n).zip (b.take n) = (a.zip b).take n
  | 0, _, _ => by simp
  | _ + 1, [], _ => by simp
  | _ + 1, _ :: _, [] => by simp
  | n + 1, x :: a, y :: b => by simp [zip_take n a b]
def zeros (n : Nat) : List Int := List.replicate n 0
theorem zeros_V (n : Nat) : (List.replicate n [V.int 0]).flatten = (zeros n).map V.int := by
  unfold zeros
  induction n with
  | zero => rfl
  | succ n ih => rw [List.replicate_succ, List.flatten_cons, ih]; rfl
theorem zip_snoc {α β : Type} {a : List α} {b : List β} {i : Nat} {x : α} {y : β} (hx : a[i]? = some x) (hy : b[i]? = some y) : (a.take (i + 1)).zip (b.take (i + 1)) = (a.take i).zip (b.take i) ++ [(x, y)] := by
  rw [zip_take, zip_take, List.take_add_one]
  have : (a.zip b)[i]? = some (x, y) := by
    rw [List.getElem?_zip_eq_some]; exact ⟨hx, hy⟩
  rw [this]; rfl
theorem take_snoc {α : Type} {l : List α} {i : Nat} {x : α} (h : l[i]? = some x) : l.take (i + 1) = l.take i ++ [x] := by rw [List.take_add_one, h]; rfl
theorem cut_to (xs : List V) (n : Nat) : cutV xs none (some (n : Int)) = xs.take n := by
  unfold cutV
  rw [HT.sIx_none, HT.sIx_nat, List.drop_zero, Nat.sub_zero]
  by_cases h : n ≤ xs.length
  · rw [Nat.min_eq_left h]
  · rw [Nat.min_eq_right (by omega), List.take_length, List.take_of_length_le (by omega)]
def absI (i : Int) : Int := if i < 0 then -i else i
theorem absI_nn (i : Int) : 0 ≤ absI i := by unfold absI; split <;> omega
def restI (c : Int) : Int := c * (if decide ((10 : Int) ^ (18 : Int).toNat ≤ c) = true then 1 else 0)
theorem restI_nn {c : Int} (h : 0 ≤ c) : 0 ≤ restI c := by unfold restI; split <;> omega
structure InsOk (cs : List Int) (gs : List Gp) : Prop where
  c1 : 1 ≤ cs.length
  c6 : cs.length ≤ 6
  cb : ∀ c ∈ cs, 1 ≤ c ∧ c ≤ 10 ^ 12
  g1 : 1 ≤ gs.length
  g10 : gs.length ≤ 10
  gp : ∀ g ∈ gs, g.1.length ≤ 6 ∧ (∀ p ∈ g.1, 0 ≤ p ∧ p < (cs.length : Int)) ∧ 1 ≤ g.2 ∧ g.2 ≤ 10 ^ 12
theorem ExtPut {st r p : Addr} {H H1 : Hp} {o : HO} (x : Ext st r H H1) (np : H p = none) : Ext st r H (upd H1 p o) := fun b z e n1 n2 => by rw [upd_ne (ne_of_none e np)]; exact x b z e n1 n2
theorem Ext.nil {st c r p : Addr} {t : Nat} {H H1 : Hp} (x : Ext st r H H1) (d : DS H1 st c r t) (np : H1 p = none) : H p = none := by
  have o := d.off np
  cases e : H p with
  | none => rfl
  | some z => rw [x _ _ e o.1 o.2.2] at np; cases np
def upTo (n : Nat) : List Int := (List.range n).map fun (i : Nat) => (i : Int)
theorem rgV_upTo (n : Nat) : rgV 0 (n : Int) = (upTo n).map V.int := by
  unfold rgV upTo
  rw [List.map_map]
  simp
theorem upTo_len (n : Nat) : (upTo n).length = n := by simp [upTo]
theorem upTo_mem {n : Nat} {x : Int} (h : x ∈ upTo n) : 0 ≤ x ∧ x < n := by
  unfold upTo at h
  obtain ⟨i, hi, rfl⟩ := List.mem_map.mp h
  have := List.mem_range.mp hi
  omega
theorem erase_map {α β : Type} (f : α → β) : ∀ (l : List α) (k : Nat), (l.map f).eraseIdx k = (l.eraseIdx k).map f
  | [], _ => rfl
  | _ :: _, 0 => rfl
  | x :: l, k + 1 => by simp [erase_map f l k]
theorem fine_grp {cs : List Int} {gs : List Gp} (ok : InsOk cs gs) {g : Gp} (hg : g ∈ gs) : Fine 2 500 (dGrp g) := by
  obtain ⟨h1, h2, h3, h4⟩ := ok.gp g hg
  refine (fine_tup (k := 1) (B := 200) (n := 2) (xs := [dI g.1, .int g.2]) ?_ (by simp)).mono (by omega) (by omega)
  intro x hx
  simp at hx
  rcases hx with rfl | rfl
  · exact (fine_dI (n := 6) (fun p hp => by have := h2 p hp; have := ok.c6; omega) h1).mono (by omega) (by omega)
  · exact (fine_int (by omega)).mono (by omega) (by omega)
theorem fine_inst {cs : List Int} {gs : List Gp} (ok : InsOk cs gs) : Fine 4 20000 (dInst cs gs) := by
  refine (fine_tup (k := 3) (B := 8000) (n := 2) (xs := [dI cs, .tuple (gs.map dGrp)]) ?_ (by simp)).mono (by omega) (by omega)
  intro x hx
  simp at hx
  rcases hx with rfl | rfl
  · exact (fine_dI (n := 6) (fun p hp => by have := ok.cb p hp; omega) ok.c6).mono (by omega) (by omega)
  · refine (fine_tup (k := 2) (B := 500) (n := 10) ?_ (by rw [List.length_map]; exact ok.g10)).mono (by omega) (by omega)
    intro d hd
    obtain ⟨g, hg, rfl⟩ := List.mem_map.mp hd
    exact fine_grp ok hg
theorem hu70 {k : Nat} {A : Around} (hr : Room k A) : A.units + 70 < cLine := by have := hr.un; omega
theorem ty_sqL {K : PySem.W.Frag} {H : Hp} {a : Addr} {xs : List V} (h : SqL K H a xs) : TyX K H (.ref a) (.type "list") := by
  rcases h with (h | ⟨o, h⟩) | ⟨o, its, n, h, hc, _⟩
  · exact .base (.lst h)
  · exact .base (.frz h)
  · exact .kList h hc
theorem FnOk.none {P : Program} {w : World} {K : PySem.W.Frag} {mg : Str → Option Value} {base : Heap} {k : Nat} {f : Addr} {fd : FuncData} {ps : List Str} : FnOk P w K mg base CX0 k f fd ps (fun _ _ _ _ => False) :=
  ⟨fun _ _ _ _ h => h.elim, fun _ _ _ _ _ _ _ _ _ _ _ _ _ h => h.elim⟩
end Pv

namespace Pv
open PySem PySem.Spec PyProof.Rows L2

/-! data of any kind: lists stand off the drawing state, dicts have leaves alone -/
def kD : Key → PyData
  | .inl i => .int i
  | .inr x => .str x
mutual
inductive Dq (K : PySem.W.Frag) (st r : Addr) (H : Hp) : V → PyData → Prop
  | non : Dq K st r H .non .none
  | bl (b : Bool) : Dq K st r H (.bl b) (.bool b)
  | int (i : Int) : Dq K st r H (.int i) (.int i)
  | str (x : Str) : Dq K st r H (.str x) (.str x)
  | lst {a : Addr} {xs : List V} {ds : List PyData} : H a = some (.lst xs) → a ≠ st → a ≠ r → a ≠ sysModules → DqAll K st r H xs ds → Dq K st r H (.ref a) (.list ds)
  | tup {a : Addr} {xs : List V} {ds : List PyData} : SqT K H a xs → DqAll K st r H xs ds → Dq K st r H (.ref a) (.tuple ds)
  | dct {a : Addr} {kvs : List (Key × Int)} : H a = some (.dK (kvs.map fun p => (p.1, V.int p.2))) → Dq K st r H (.ref a) (.dict (kvs.map fun p => (kD p.1, .int p.2)))
inductive DqAll (K : PySem.W.Frag) (st r : Addr) (H : Hp) : List V → List PyData → Prop
  | nil : DqAll K st r H [] []
  | cons {v : V} {vs : List V} {d : PyData} {ds : List PyData} : Dq K st r H v d → DqAll K st r H vs ds → DqAll K st r H (v :: vs) (d :: ds)
end
theorem keys_reads {P : Program} {w : World} {h : Heap} : ∀ {kvs : List (Key × Int)} {vs : List (Key × Value)} {es : List DictEntry}, KV (kvs.map fun p => (p.1, V.int p.2)) vs → Pairs (mixKind P w) es vs →
    ReadsAll h (es.map (·.key)) ((kvs.map fun p => (kD p.1, PyData.int p.2)).map (·.1)) [] ∧ ReadsAll h (es.map (·.val)) ((kvs.map fun p => (kD p.1, PyData.int p.2)).map (·.2)) []
  | [], _, _, rk, rp => by
    cases rk
    cases rp
    exact ⟨.nil, .nil⟩
  | p :: kvs, _, _, rk, rp => by
    obtain ⟨pk, pi⟩ := p
    rw [List.map_cons] at rk
    cases rk with
    | @cons _ q _ qs hq tq =>
      obtain ⟨qk, qv⟩ := q
      obtain ⟨h1, h2⟩ := hq
      simp only at h1 h2
      subst h1
      cases rp with
      | @cons e _ es _ he hv tp =>
        obtain ⟨r1, r2⟩ := keys_reads (h := h) tq tp
        simp only at he hv
        obtain ⟨t, ht⟩ := h2
        subst ht
        refine ⟨?_, ?_⟩
        · have k1 : Reads h e.key (kD pk) [] := by
            rcases keyIs_shape (show keyIs pk e.key = true from he) with ⟨i, t, e1, e2⟩ | ⟨x, t, e1, e2⟩
            · rw [e1, e2]; exact .int i t
            · rw [e1, e2]; exact .str x t
          exact ReadsAll.cons k1 r1
        · have k2 : Reads h e.val (.int pi) [] := by rw [hv]; exact .int pi t
          exact ReadsAll.cons k2 r2
section
variable {X : Cx} {pins : List (Addr × Obj)} {σ : L2.St} {H : Hp} {s : Shared} {st r : Addr}
mutual
theorem Dq.reads (I : Inv X pins σ H s) : ∀ (d : PyData) (v : V) (u : Value), Dq X.K st r H v d → RelV v u → ∃ as, Reads s.heap u d as ∧ sysModules ∉ as
  | .none, _, _, h, q => by
    cases h; cases q; exact ⟨[], .none, by simp⟩
  | .bool b, _, _, h, q => by
    cases h; cases q; exact ⟨[], .bool b, by simp⟩
  | .int i, _, _, h, q => by
    cases h; obtain ⟨t, e⟩ := q; subst e; exact ⟨[], .int i t, by simp⟩
  | .str x, _, _, h, q => by
    cases h; obtain ⟨t, e⟩ := q; subst e; exact ⟨[], .str x t, by simp⟩
  | .list ds, _, _, h, q => by
    cases h with
    | lst e _ _ n hd =>
      cases q
      obtain ⟨its, rel, ⟨o, m, ho, hc, _, hm⟩, _⟩ := I.list (SqL.of e)
      obtain ⟨as, h1, h2⟩ := DqAll.reads I ds _ its hd rel
      exact ⟨_, .list ho hc hm h1, by simp only [List.mem_cons, not_or]; exact ⟨fun z => n z.symm, h2⟩⟩
  | .tuple ds, _, _, h, q => by
    cases h with
    | tup e hd =>
      cases q
      obtain ⟨its, rel, ⟨o, ho, hc, m, hm⟩, _⟩ := I.tuple e
      obtain ⟨as, h1, h2⟩ := DqAll.reads I ds _ its hd rel
      exact ⟨_, .tuple ho hc hm h1, h2⟩
  | .dict _, _, _, h, q => by
    cases h with
    | dct e =>
      cases q
      obtain ⟨_, nb, vs, rk, o, es, ep, ho, hx, hm, _, rp, _⟩ := dk_of I.hok e
      obtain ⟨h1, h2⟩ := keys_reads (h := s.heap) rk rp
      exact ⟨_, .dict ho hx.1 hm h1 h2, by simp only [List.nil_append, List.append_nil, List.mem_singleton, List.mem_cons, List.not_mem_nil, or_false]; exact fun z => absurd z.symm (by simpa using nb)⟩
theorem DqAll.reads (I : Inv X pins σ H s) : ∀ (ds : List PyData) (vs : List V) (us : List Value), DqAll X.K st r H vs ds → Vals vs us → ∃ as, ReadsAll s.heap us ds as ∧ sysModules ∉ as
  | [], _, _, h, q => by
    cases h; cases q; exact ⟨[], .nil, by simp⟩
  | d :: ds, _, _, h, q => by
    cases h with
    | cons h1 h2 =>
      cases q with
      | cons q1 q2 =>
        obtain ⟨as, e1, n1⟩ := Dq.reads I d _ _ h1 q1
        obtain ⟨bs, e2, n2⟩ := DqAll.reads I ds _ _ h2 q2
        exact ⟨_, .cons e1 e2, by simp only [List.mem_append, not_or]; exact ⟨n1, n2⟩⟩
end
end
/-- repr of such data -/
theorem call_reprQ {X : Cx} (hg : X.A.guards = some []) (hu : X.A.units + 70 < cLine) : CallR X (.builtin "repr")
    (fun xs H Q => ∃ a d st r, xs = [.ref a] ∧ Dq X.K st r H (.ref a) d ∧ d.showable = true ∧ d.depth ≤ 60 ∧ d.shown.length ≤ sizeLine ∧ Q (.str d.shown) H) := by
  intro pins s σ H xs us Q I rv h
  obtain ⟨a, d, st, r, rfl, hd, h1, h3, h4, q⟩ := h
  obtain ⟨u, rfl, rfl⟩ := vals1 rv
  obtain ⟨as, rd, nm⟩ := Dq.reads I d _ _ hd rfl
  exact repr_of_reads' rd h1 (fun _ => nm) hg (by omega) (fun _ _ e => e) (fun h' u tk hk => ⟨.str _, H, I.kept hk, ⟨_, rfl⟩, q⟩) h4

/-! how it lasts -/
section
variable {K : PySem.W.Frag} {st r c : Addr} {H H' : Hp}
structure Lasts (st r : Addr) (H H' : Hp) : Prop where
  tk : TupK H H'
  ls : ∀ a xs, H a = some (.lst xs) → a ≠ st → a ≠ r → H' a = some (.lst xs)
  dk : ∀ a kvs, H a = some (.dK kvs) → H' a = some (.dK kvs)
theorem Lasts.refl : Lasts st r H H := ⟨.refl _, fun _ _ e _ _ => e, fun _ _ e => e⟩
theorem Lasts.of (s : Same H H') : Lasts st r H H' := ⟨.of s, fun a xs e _ _ => s _ _ e, fun a kvs e => s _ _ e⟩
theorem Lasts.ext {t : Nat} (d : DS H st c r t) (x : Ext st r H H') : Lasts st r H H' := by
  refine ⟨x.tup d, fun a xs e n1 n2 => x _ _ e n1 n2, fun a kvs e => ?_⟩
  obtain ⟨cells, rests, hc, hr, _⟩ := d.ex
  exact x _ _ e (ne_of e d.hs (by intro z; cases z)) (ne_of e hr (by intro z; cases z))
theorem Lasts.trans {H2 : Hp} (a : Lasts st r H H') (b : Lasts st r H' H2) : Lasts st r H H2 :=
  ⟨a.tk.trans b.tk, fun p xs e n1 n2 => b.ls _ _ (a.ls _ _ e n1 n2) n1 n2, fun p kvs e => b.dk _ _ (a.dk _ _ e)⟩
theorem Lasts.new {p : Addr} {o : HO} (np : H p = none) : Lasts st r H (upd H p o) := .of (sameNew np)
mutual
theorem Dq.lasts (l : Lasts st r H H') : ∀ {d : PyData} {v : V}, Dq K st r H v d → Dq K st r H' v d
  | .none, _, h => by cases h; exact .non
  | .bool _, _, h => by cases h; exact .bl _
  | .int _, _, h => by cases h; exact .int _
  | .str _, _, h => by cases h; exact .str _
  | .list _, _, h => by
    cases h with
    | lst e n1 n2 n3 hd => exact .lst (l.ls _ _ e n1 n2) n1 n2 n3 (DqAll.lasts l hd)
  | .tuple _, _, h => by
    cases h with
    | tup e hd => exact .tup (l.tk.sq e) (DqAll.lasts l hd)
  | .dict _, _, h => by
    cases h with
    | dct e => exact .dct (l.dk _ _ e)
theorem DqAll.lasts (l : Lasts st r H H') : ∀ {ds : List PyData} {vs : List V}, DqAll K st r H vs ds → DqAll K st r H' vs ds
  | [], _, h => by cases h; exact .nil
  | _ :: _, _, h => by
    cases h with
    | cons h1 h2 => exact .cons (Dq.lasts l h1) (DqAll.lasts l h2)
end
mutual
theorem Dq.of_dp : ∀ {d : PyData} {v : V}, tupOnly d = true → Dp K H v d → Dq K st r H v d
  | .none, _, _, h => by cases h; exact .non
  | .bool _, _, _, h => by cases h; exact .bl _
  | .int _, _, _, h => by cases h; exact .int _
  | .str _, _, _, h => by cases h; exact .str _
  | .list _, _, t, _ => by simp [tupOnly] at t
  | .tuple _, _, t, h => by
    cases h with
    | tup e hd => exact .tup e (DqAll.of_dp (by simpa [tupOnly] using t) hd)
  | .dict _, _, t, _ => by simp [tupOnly] at t
theorem DqAll.of_dp : ∀ {ds : List PyData} {vs : List V}, tupOnlyAll ds = true → DpAll K H vs ds → DqAll K st r H vs ds
  | [], _, _, h => by cases h; exact .nil
  | d :: ds, _, t, h => by
    have t' : tupOnly d = true ∧ tupOnlyAll ds = true := by simpa [tupOnlyAll] using t
    cases h with
    | cons h1 h2 => exact .cons (Dq.of_dp t'.1 h1) (DqAll.of_dp t'.2 h2)
theorem Dq.to_dp : ∀ {d : PyData} {v : V}, tupOnly d = true → Dq K st r H v d → Dp K H v d
  | .none, _, _, h => by cases h; exact .non
  | .bool _, _, _, h => by cases h; exact .bl _
  | .int _, _, _, h => by cases h; exact .int _
  | .str _, _, _, h => by cases h; exact .str _
  | .list _, _, t, _ => by simp [tupOnly] at t
  | .tuple _, _, t, h => by
    cases h with
    | tup e hd => exact .tup e (DqAll.to_dp (by simpa [tupOnly] using t) hd)
  | .dict _, _, t, _ => by simp [tupOnly] at t
theorem DqAll.to_dp : ∀ {ds : List PyData} {vs : List V}, tupOnlyAll ds = true → DqAll K st r H vs ds → DpAll K H vs ds
  | [], _, _, h => by cases h; exact .nil
  | d :: ds, _, t, h => by
    have t' : tupOnly d = true ∧ tupOnlyAll ds = true := by simpa [tupOnlyAll] using t
    cases h with
    | cons h1 h2 => exact .cons (Dq.to_dp t'.1 h1) (DqAll.to_dp t'.2 h2)
end
theorem DqAll.len : ∀ {vs : List V} {ds : List PyData}, DqAll K st r H vs ds → vs.length = ds.length
  | _, _, .nil => rfl
  | _, _, .cons _ t => by simp [DqAll.len t]
theorem DqAll.at : ∀ {vs : List V} {ds : List PyData} {i : Nat} {v : V}, DqAll K st r H vs ds → vs[i]? = some v → ∃ d, ds[i]? = some d ∧ Dq K st r H v d
  | _, _, _, _, .nil, e => by simp at e
  | _, _, 0, _, .cons h _, e => by simp at e; subst e; exact ⟨_, rfl, h⟩
  | _, _, i + 1, v, .cons _ t, e => by
    obtain ⟨d, h1, h2⟩ := DqAll.at (i := i) t (by simpa using e)
    exact ⟨d, by simpa using h1, h2⟩
theorem DqAll.app : ∀ {vs ws : List V} {ds es : List PyData}, DqAll K st r H vs ds → DqAll K st r H ws es → DqAll K st r H (vs ++ ws) (ds ++ es)
  | _, _, _, _, .nil, h => h
  | _, _, _, _, .cons h t, h' => .cons h (DqAll.app t h')
theorem DqAll.snoc {vs : List V} {ds : List PyData} {v : V} {d : PyData} (h : DqAll K st r H vs ds) (h' : Dq K st r H v d) : DqAll K st r H (vs ++ [v]) (ds ++ [d]) := h.app (.cons h' .nil)
theorem DqAll.rev : ∀ {vs : List V} {ds : List PyData}, DqAll K st r H vs ds → DqAll K st r H vs.reverse ds.reverse
  | _, _, .nil => .nil
  | _, _, .cons h t => by rw [List.reverse_cons, List.reverse_cons]; exact (DqAll.rev t).snoc h
theorem DqAll.take : ∀ {vs : List V} {ds : List PyData} (n : Nat), DqAll K st r H vs ds → DqAll K st r H (vs.take n) (ds.take n)
  | _, _, 0, _ => .nil
  | _, _, _ + 1, .nil => .nil
  | _, _, n + 1, .cons h t => .cons h (DqAll.take n t)
theorem DqAll.drop : ∀ {vs : List V} {ds : List PyData} (n : Nat), DqAll K st r H vs ds → DqAll K st r H (vs.drop n) (ds.drop n)
  | _, _, 0, h => h
  | _, _, _ + 1, .nil => .nil
  | _, _, n + 1, .cons _ t => DqAll.drop n t
/-- its type -/
def tyN : PyData → String
  | .none => "NoneType"
  | .bool _ => "bool"
  | .int _ => "int"
  | .str _ => "str"
  | .list _ => "list"
  | .tuple _ => "tuple"
  | .dict _ => "dict"
theorem Dq.ty {d : PyData} {v : V} (h : Dq K st r H v d) : TyX K H v (.type (tyN d)) := by
  cases h with
  | non => exact .base .non
  | bl b => exact .base (.bl b)
  | int i => exact .base (.int i)
  | str x => exact .base (.str x)
  | lst e => exact .base (.lst e)
  | tup e _ =>
    rcases e with (e | ⟨o, e⟩) | ⟨o, its, n, e, hc, _⟩
    · exact .base (.tup e)
    · exact .fTuple e
    · exact .kTuple e hc
  | dct e => exact .base (.dK e)
def isTup : PyData → Bool
  | .tuple _ => true
  | _ => false
def isInt : PyData → Bool
  | .int _ => true
  | .bool _ => true
  | _ => false
def isBool : PyData → Bool
  | .bool _ => true
  | _ => false
theorem kit_tup (d : PyData) : PySem.W.kitOne K (.type (tyN d)) (.type "tuple") = some (isTup d) := by
  have key : ∀ a b : String, ∀ x : Bool, kitB a b = some x → PySem.W.kitOne K (.type a) (.type b) = some x := fun _ _ _ h => kit_ty h
  cases d
  · exact key "NoneType" "tuple" false (by decide +kernel)
  · exact key "bool" "tuple" false (by decide +kernel)
  · exact key "int" "tuple" false (by decide +kernel)
  · exact key "str" "tuple" false (by decide +kernel)
  · exact key "list" "tuple" false (by decide +kernel)
  · exact key "tuple" "tuple" true (by decide +kernel)
  · exact key "dict" "tuple" false (by decide +kernel)
theorem kit_int (d : PyData) : PySem.W.kitOne K (.type (tyN d)) (.type "int") = some (isInt d) := by
  have key : ∀ a b : String, ∀ x : Bool, kitB a b = some x → PySem.W.kitOne K (.type a) (.type b) = some x := fun _ _ _ h => kit_ty h
  cases d
  · exact key "NoneType" "int" false (by decide +kernel)
  · exact key "bool" "int" true (by decide +kernel)
  · exact key "int" "int" true (by decide +kernel)
  · exact key "str" "int" false (by decide +kernel)
  · exact key "list" "int" false (by decide +kernel)
  · exact key "tuple" "int" false (by decide +kernel)
  · exact key "dict" "int" false (by decide +kernel)
theorem kit_bool (d : PyData) : PySem.W.kitOne K (.type (tyN d)) (.type "bool") = some (isBool d) := by
  have key : ∀ a b : String, ∀ x : Bool, kitB a b = some x → PySem.W.kitOne K (.type a) (.type b) = some x := fun _ _ _ h => kit_ty h
  cases d
  · exact key "NoneType" "bool" false (by decide +kernel)
  · exact key "bool" "bool" true (by decide +kernel)
  · exact key "int" "bool" false (by decide +kernel)
  · exact key "str" "bool" false (by decide +kernel)
  · exact key "list" "bool" false (by decide +kernel)
  · exact key "tuple" "bool" false (by decide +kernel)
  · exact key "dict" "bool" false (by decide +kernel)
end
/-! a new list, whose address is none of the machine's own -/
def tLstS (t : TA) : TE := fun σ H Q => t σ H fun xs H1 => xs.length ≤ sizeLine ∧ ∀ p, H1 p = none → p ≠ sysModules → Q (.ref p) (upd H1 p (.lst xs))
section
variable {X : Cx} {es : List Expr} {pos : Pos} {t : TA}
theorem pe_lstS (h : PA X es t) : PE X (.List es pos) (tLstS t) := by
  constructor
  intro pins s σ H Q I hq
  refine wpAny_List_spliced (thn (h.run pos pins s σ H _ I hq) ?_)
  rintro us s1 ⟨xs, H1, I1, rel, z, q⟩
  refine ⟨by rw [← rel.length]; exact z, .ref s1.heap.objs.size, _, ?_, rfl, q _ (I1.hok.fresh (Nat.le_refl _)) (Nat.ne_of_gt I1.big)⟩
  exact I1.laid (t' := s1.toks) (fun b u e => Heap.get?_push_of_some _ e) (Nat.le_refl _) ⟨z, us, 0, rel, Heap.get?_push_size _ rfl⟩
def rListS (K : PySem.W.Frag) : RC := fun xs H Q => ∃ (p : Addr) (ys : List V), xs = [.ref p] ∧ SqT K H p ys ∧ ∀ l, H l = none → l ≠ sysModules → Q (.ref l) (upd H l (.lst ys))
theorem call_listS : CallR X (.type "list") (rListS X.K) := by
  intro pins s σ H xs us Q I rel h
  obtain ⟨p, ys, e, hq, q⟩ := h
  subst e
  obtain ⟨u, e, rx⟩ := vals1 rel
  subst e
  cases rx
  obtain ⟨its, r', ⟨o, ho, hc, n, hd⟩, hz⟩ := I.tuple hq
  have hlen := r'.length
  refine call_list_seq p (.inr rfl) ho hc hd (fun h' c' kp e => ?_) (by simp only [List.size_toArray]; omega)
  exact ⟨.ref s.heap.objs.size, _, I.laid (t' := s.toks) (o := .lst ys) kp (Nat.le_refl _) ⟨hz, its, c', r', e⟩, rfl, q _ (I.hok.fresh (Nat.le_refl _)) (Nat.ne_of_gt I.big)⟩
end
end Pv

/-! t[::-1] of a tuple -/
namespace HT
open PySem PyProof.Rows
section
variable {prog : Program} {w : World} {A : Around} {E : Value → Shared → Prop} {s : Shared}
theorem pv_pickBack (xs : Array Value) : ((List.range xs.size).filterMap fun (k : Nat) => xs[(((xs.size : Int) - 1) + (k : Int) * (-1)).toNat]?) = xs.toList.reverse := by
  apply List.ext_getElem?
  intro i
  have e : ∀ n, n ≤ xs.size → ((List.range n).filterMap fun (k : Nat) => xs[(((xs.size : Int) - 1) + (k : Int) * (-1)).toNat]?) = xs.toList.reverse.take n := by
    intro n
    induction n with
    | zero => intro _; rfl
    | succ n ih =>
      intro hn
      rw [List.range_succ, List.filterMap_append, ih (by omega), List.take_add_one]
      congr 1
      have h1 : (((xs.size : Int) - 1) + (n : Int) * (-1)).toNat = xs.size - 1 - n := by omega
      rw [List.filterMap_cons, List.filterMap_nil, h1, List.getElem?_reverse (by rw [Array.length_toList]; omega), Array.length_toList, Array.getElem?_toList]
      cases xs[xs.size - 1 - n]? <;> rfl
  rw [e xs.size (Nat.le_refl _), List.take_of_length_le (by simp)]
theorem pv_appliedBack {sl : Addr} {n : Nat} {t : Tok} {Q : Int × Int × Nat → Shared → Prop} (hs : s.heap.IsSliceOf sl .none .none (.int (-1) t)) (h : Q ((n : Int) - 1, -1, n) s) :
    wpAny (model prog w) A (Builtin.Slice.sliceApplied (.ref sl) (pure (n : Int))) Q E s := by
  obtain ⟨os, hos, hcs, hds⟩ := id hs
  unfold Builtin.Slice.sliceApplied Builtin.Slice.sliceFields
  refine wpAny_bind (wpAny_bind (wpAny_field hos hds (x := .none) rfl (wpAny_bind (wpAny_field hos hds (x := .none) rfl (wpAny_bind (wpAny_field hos hds (x := .int (-1) t) rfl (wpAny_pure ?_)))))))
  refine wpAny_bind (slicePart_ (IsPart.int (-1) t) ?_)
  show wpAny _ _ (if ((-1 : Int) == 0) = true then _ else _) _ _ s
  rw [if_neg (by decide)]
  refine wpAny_bind (slicePart_ IsPart.none (wpAny_bind (slicePart_ IsPart.none (wpAny_bind (wpAny_pure ?_)))))
  show wpAny _ _ (match Builtin.Slice.sliceAdjust none none (-1) (n : Int) with | (a, b) => pure (a, (-1 : Int), Builtin.Slice.slicePlaces a b (-1))) _ _ s
  have e1 : Builtin.Slice.sliceAdjust none none (-1) (n : Int) = ((n : Int) - 1, -1) := rfl
  rw [e1]
  show wpAny _ _ (pure ((n : Int) - 1, (-1 : Int), Builtin.Slice.slicePlaces ((n : Int) - 1) (-1) (-1))) _ _ s
  have e2 : Builtin.Slice.slicePlaces ((n : Int) - 1) (-1) (-1) = n := by
    unfold Builtin.Slice.slicePlaces
    have h1 : ¬ ((-1 : Int) > 0) := by omega
    simp only [h1, if_false]
    by_cases h2 : (n : Int) - 1 > -1
    · rw [if_pos h2]
      have h3 : -(-1 : Int) = 1 := rfl
      rw [h3, Int.ediv_one]
      omega
    · rw [if_neg h2]; omega
  rw [e2]
  exact wpAny_pure h
theorem pv_getItemBack {p sl : Addr} {items : Array Value} {t : Tok} {Q : Value → Shared → Prop} (ht : IsTup s.heap p items) (hs : s.heap.IsSliceOf sl .none .none (.int (-1) t))
    (h : Q (.ref s.heap.objs.size) { s with heap := s.heap.push { cls := .type "tuple", data := .seq items.toList.reverse.toArray } }) (hsz : items.size ≤ sizeLine) : wpAny (model prog w) A (getItem (.ref p) (.ref sl)) Q E s := by
  have hfit : sizeOk (.seq items.toList.reverse.toArray) := by
    show items.toList.reverse.toArray.size ≤ sizeLine
    rw [List.size_toArray, List.length_reverse]; simpa using hsz
  obtain ⟨os, hos, hcs, hds⟩ := id hs
  have hT : s.TypeIs (.ref sl) "slice" := ⟨os, hos, hcs⟩
  unfold getItem; try with_reducible refine wpAny_holding ?_
  first | refine wpAny_bind (wpAny_pure ?_) | skip
  refine wpAny_bind (wpAny_sequenceKey ht.typeIs (by decide) (wpAny_bind (wpAny_callSpecial?_slot (name := Str.ofString "__getitem__") ht.typeIs PyProof.Rows.slot_tuple_getitem
    (wpAny_call_entry PyProof.Rows.slot_tuple_getitem ht.typeIs entry_tuple_getitem ?_ (args_tuple_getitem _ _)))))
  show wpAny _ _ (Builtin.Tuple.tupleItemsOf (.ref p) >>= _) _ _ s
  refine wpAny_bind (tupleItemsOf_ ht (wpAny_bind (wpAny_typeOf hT ?_)))
  rw [if_pos (by decide)]
  refine wpAny_bind (pv_appliedBack hs ?_)
  show wpAny _ _ (if (((items.size : Int) - 1) == 0 && (-1 : Int) == 1 && items.size == items.size) = true then _ else _) _ _ s
  rw [if_neg (by simp)]
  show wpAny _ _ (Builtin.Tuple.tupleExact ((List.range items.size).filterMap fun (k : Nat) => items[(((items.size : Int) - 1) + (k : Int) * (-1)).toNat]?).toArray >>= _) _ _ s
  rw [pv_pickBack]
  first
    | exact wpAny_bind (m := Builtin.Tuple.tupleExact _) (wpAny_newObj_type (wpAny_pure ⟨_, rfl, wpAny_pure h⟩) hfit)
    | exact wpAny_bind (m := Builtin.Tuple.tupleExact _) (wpAny_newObj_type (wpAny_bind (wpAny_pure (wpAny_pure ⟨_, rfl, wpAny_pure h⟩))) hfit)
    | exact wpAny_bind (wpAny_bind (m := Builtin.Tuple.tupleExact _) (wpAny_newObj_type (wpAny_pure (wpAny_pure ⟨_, rfl, wpAny_pure h⟩)) hfit))
    | exact wpAny_bind (wpAny_bind (m := Builtin.Tuple.tupleExact _) (wpAny_newObj_type (wpAny_pure ⟨_, rfl, wpAny_pure h⟩) hfit))
end
end HT
namespace Pv
open PySem PySem.Spec PyProof.Rows L2
def tRevT (K : PySem.W.Frag) (te : TE) : TE := fun σ H Q => te σ H fun x H1 => ∃ (a : Addr) (xs : List V), x = .ref a ∧ SqT K H1 a xs ∧ ∀ p, H1 p = none → Q (.ref p) (upd H1 p (.tup xs.reverse))
section
variable {X : Cx}
theorem pe_revT {e : Expr} {te : TE} {k : Nat} {p1 p2 p3 pos : Pos} (he : PE X e te) : PE X (.Subscript e (.Slice none none (some (.UnaryOp .USub (.Constant (.int 1) k p1) p2)) p3) pos) (tRevT X.K te) := by
  constructor
  intro pins s σ H Q I h
  refine Subscript_ (thn (he.run pins s σ H _ I h) ?_)
  rintro v s1 ⟨x, H1, I1, r1, a, xs, rfl, hx, q⟩
  cases r1
  have hst : PO X (some (.UnaryOp .USub (.Constant (.int 1) k p1) p2)) (tPart (tUn (rU fun i => .int (-i)) (tC (.int 1)))) := po_some (pe_un un_neg pe_int)
  refine wpAny_Slice (thn (po_none.run pins s1 σ H1 (fun o H2 => o = none ∧ H2 = H1) I1 ⟨rfl, rfl⟩) ?_)
  rintro vl s2 ⟨l, H2, I2, pl, rfl, rfl⟩
  refine thn (po_none.run pins s2 σ H2 (fun o H3 => o = none ∧ H3 = H2) I2 ⟨rfl, rfl⟩) ?_
  rintro vu s3 ⟨u, H3, I3, pu, rfl, rfl⟩
  refine thn (hst.run pins s3 σ H3 (fun o H4 => o = some (-1) ∧ H4 = H3) I3 ⟨1, rfl, -1, rfl, rfl, rfl⟩) ?_
  rintro vs s4 ⟨o, H4, I4, ps, rfl, rfl⟩
  have I5 : Inv X pins σ H4 { s4 with heap := s4.heap.push { cls := .type "slice", data := .fields #[vl, vu, vs] } } := I4.kept (t' := s4.toks) fun b ob q => Heap.get?_push_of_some _ q
  obtain ⟨its, r, ht, hz⟩ := I5.tuple hx
  have hlen := r.length
  cases pl
  cases pu
  cases ps
  show wpAny (model X.prog X.w) X.A (subscriptTail e (.Slice none none (some (.UnaryOp .USub (.Constant (.int 1) k p1) p2)) p3) (.ref a) (.ref s4.heap.objs.size)) (EP X pins σ Q) X.xe _
  refine tail_any (ops := [.ref a, .ref s4.heap.objs.size]) ht.typeIs (PyProof.Rows.slot_tuple_getitem.lookup) ?_ (by with_unfolding_all rfl)
  refine HT.pv_getItemBack ht (Heap.IsSliceOf.new _ _ _ _) ?_ (by rw [List.size_toArray]; omega)
  refine ⟨.ref _, _, I5.laid (t' := s4.toks) (o := .tup xs.reverse) (fun b ob q => Heap.get?_push_of_some _ q) (Nat.le_refl _) ?_, rfl, q _ (I5.hok.fresh (Nat.le_refl _))⟩
  exact ⟨by rw [List.length_reverse]; exact hz, _, r.reverse, IsTup.new _ _⟩
/-! list == [], tuple != () whatever the items are -/
def rEqNil (K : PySem.W.Frag) : R2 := fun x y H Q => ∃ (a b : Addr) (xs : List V), x = .ref a ∧ y = .ref b ∧ SqL K H a xs ∧ SqL K H b [] ∧ Q (.bl xs.isEmpty) H
theorem op_eqNil (hu : X.A.units < cLine) : OpR X (compareOp .Eq) (rEqNil X.K) := by
  intro pins s σ H x y v u Q I rx ry h
  obtain ⟨a, b, xs, rfl, rfl, ha, hb, q⟩ := h
  cases rx
  cases ry
  obtain ⟨its, r1, p1, z1⟩ := I.list ha
  obtain ⟨its2, r2, p2, z2⟩ := I.list hb
  cases r2
  cases xs with
  | nil =>
    cases r1
    exact SeqAt.RcAt.lists (e := fun _ => true) p1.isList p2.isList rfl hu (fun j h1 _ => absurd h1 (Nat.not_lt_zero _)) X.prog X.w _ _ ⟨.bl true, H, I, rfl, q⟩
  | cons x xs =>
    have hl := r1.length
    exact SeqAt.RcAt.lists_lengths p1.isList p2.isList (by rw [List.size_toArray, ← hl]; rfl) hu X.prog X.w _ _ ⟨.bl false, H, I, rfl, q⟩
def rNeNilT (K : PySem.W.Frag) : R2 := fun x y H Q => ∃ (a b : Addr) (xs : List V), x = .ref a ∧ y = .ref b ∧ SqT K H a xs ∧ SqT K H b [] ∧ Q (.bl (!xs.isEmpty)) H
theorem op_neNilT (hu : X.A.units < cLine) : OpR X (compareOp .NotEq) (rNeNilT X.K) := by
  intro pins s σ H x y v u Q I rx ry h
  obtain ⟨a, b, xs, rfl, rfl, ha, hb, q⟩ := h
  cases rx
  cases ry
  obtain ⟨its, r1, p1, z1⟩ := I.tuple ha
  obtain ⟨its2, r2, p2, z2⟩ := I.tuple hb
  cases r2
  have hl := r1.length
  have key := SeqAt.RcNeAt.tuples (A := X.A) (e := fun _ => true) (show s.heap.IsTuple a its.toArray from p1) (show s.heap.IsTuple b ([] : List Value).toArray from p2) hu (fun j _ h2 => absurd h2 (Nat.not_lt_zero _)) X.prog X.w
  have e : (!((List.range (min its.toArray.size ([] : List Value).toArray.size)).all (fun _ => true) && its.toArray.size == ([] : List Value).toArray.size)) = !xs.isEmpty := by
    rw [List.size_toArray, ← hl]
    cases xs <;> simp
  rw [e] at key
  exact key _ _ ⟨.bl _, H, I, rfl, q⟩
end
end Pv

namespace Pv
open PySem PySem.Spec PyProof.Rows L2
/-! how large data is -/
mutual
def fit (M : Nat) : PyData → Prop
  | .none => True
  | .bool _ => True
  | .int i => i.natAbs ≤ M
  | .str x => (reprText x).length ≤ 400
  | .list xs => fitAll M xs
  | .tuple xs => fitAll M xs
  | .dict kvs => (PyData.shown (.dict kvs)).length ≤ 40 ∧ PyData.showable (.dict kvs) = true
def fitAll (M : Nat) : List PyData → Prop
  | [] => True
  | x :: xs => fit M x ∧ fitAll M xs
end
mutual
def wt : PyData → Nat
  | .none => 40
  | .bool _ => 40
  | .int _ => 40
  | .str _ => 400
  | .list xs => wtAll xs + 3
  | .tuple xs => wtAll xs + 3
  | .dict _ => 40
def wtAll : List PyData → Nat
  | [] => 0
  | x :: xs => wt x + 2 + wtAll xs
end
theorem int_text {i : Int} {M : Nat} (h : i.natAbs ≤ M) (hM : M < 10 ^ 35) : (PyData.int i).showable = true ∧ (PyData.int i).shown.length ≤ 40 := by
  have h' : i.natAbs < 10 ^ 35 := by omega
  refine ⟨?_, ?_⟩
  · simp only [PyData.showable, decide_eq_true_eq]
    have : i.natAbs.log2 < 200 := by
      by_cases h0 : i.natAbs = 0
      · rw [h0]; decide
      · exact (Nat.log2_lt h0).mpr (Nat.lt_trans h' (by decide))
    omega
  · have e := int_text_length_le10 (k := 35) (by decide) h'
    show (Str.ofString (toString i)).length ≤ 40
    rw [PySem.ofString_length]
    omega
mutual
theorem fit_ok {M : Nat} (hM : M < 10 ^ 35) : ∀ {d : PyData}, fit M d → d.showable = true ∧ d.shown.length ≤ wt d
  | .none, _ => by simp only [PyData.showable, PyData.shown, wt]; decide
  | .bool b, _ => by cases b <;> (simp only [PyData.showable, PyData.shown, wt]; decide)
  | .int i, h => by
    have := int_text (i := i) (M := M) (by simpa only [fit] using h) hM
    simp only [wt]; exact this
  | .str x, h => by simp only [fit] at h; simp only [PyData.showable, PyData.shown, wt]; exact ⟨trivial, h⟩
  | .list xs, h => by
    obtain ⟨h1, h2⟩ := fitAll_ok hM (xs := xs) (by simpa only [fit] using h)
    simp only [PyData.showable, PyData.shown, wt]
    refine ⟨h1, ?_⟩
    have e := listText_len_le (PyData.shownAll xs)
    omega
  | .tuple xs, h => by
    obtain ⟨h1, h2⟩ := fitAll_ok hM (xs := xs) (by simpa only [fit] using h)
    simp only [PyData.showable, PyData.shown, wt]
    refine ⟨h1, ?_⟩
    have e := tupleText_len_le (PyData.shownAll xs)
    omega
  | .dict kvs, h => by simp only [fit] at h; simp only [wt]; exact ⟨h.2, h.1⟩
theorem fitAll_ok {M : Nat} (hM : M < 10 ^ 35) : ∀ {xs : List PyData}, fitAll M xs → PyData.showableAll xs = true ∧ ((PyData.shownAll xs).map (·.length)).sum + 2 * (PyData.shownAll xs).length ≤ wtAll xs
  | [], _ => by simp [PyData.showableAll, PyData.shownAll, wtAll]
  | x :: xs, h => by
    have h' : fit M x ∧ fitAll M xs := by simpa only [fitAll] using h
    obtain ⟨a1, a2⟩ := fit_ok hM h'.1
    obtain ⟨b1, b2⟩ := fitAll_ok hM h'.2
    refine ⟨by simp [PyData.showableAll, a1, b1], ?_⟩
    simp only [PyData.shownAll, List.map_cons, List.sum_cons, List.length_cons, wtAll]
    omega
end
mutual
theorem fit_mono {M M' : Nat} (h : M ≤ M') : ∀ {d : PyData}, fit M d → fit M' d
  | .none, _ => by simp [fit]
  | .bool _, _ => by simp [fit]
  | .int i, q => by simp only [fit] at *; omega
  | .str x, q => by simpa only [fit] using q
  | .list xs, q => by simp only [fit] at *; exact fitAll_mono h q
  | .tuple xs, q => by simp only [fit] at *; exact fitAll_mono h q
  | .dict _, q => by simpa only [fit] using q
theorem fitAll_mono {M M' : Nat} (h : M ≤ M') : ∀ {xs : List PyData}, fitAll M xs → fitAll M' xs
  | [], _ => by simp [fitAll]
  | x :: xs, q => by
    have q' : fit M x ∧ fitAll M xs := by simpa only [fitAll] using q
    simp only [fitAll]
    exact ⟨fit_mono h q'.1, fitAll_mono h q'.2⟩
end
theorem fitAll_iff {M : Nat} : ∀ {xs : List PyData}, fitAll M xs ↔ ∀ x ∈ xs, fit M x
  | [] => by simp [fitAll]
  | x :: xs => by simp [fitAll, fitAll_iff (xs := xs)]
theorem wtAll_app : ∀ (xs ys : List PyData), wtAll (xs ++ ys) = wtAll xs + wtAll ys
  | [], ys => by simp [wtAll]
  | x :: xs, ys => by simp only [List.cons_append, wtAll, wtAll_app xs ys]; omega
theorem wtAll_rev : ∀ xs : List PyData, wtAll xs.reverse = wtAll xs
  | [] => rfl
  | x :: xs => by rw [List.reverse_cons, wtAll_app, wtAll_rev xs]; simp only [wtAll]; omega
theorem wtAll_split (xs : List PyData) (n : Nat) : wtAll xs = wtAll (xs.take n) + wtAll (xs.drop n) := by rw [← wtAll_app, List.take_append_drop]
theorem wtAll_len : ∀ xs : List PyData, 2 * xs.length ≤ wtAll xs
  | [] => by simp [wtAll]
  | x :: xs => by have := wtAll_len xs; simp only [wtAll, List.length_cons]; omega
theorem depthAll_le {k : Nat} : ∀ {xs : List PyData}, PyData.depthAll xs ≤ k ↔ ∀ x ∈ xs, x.depth ≤ k
  | [] => by simp [PyData.depthAll]
  | x :: xs => by
    have := depthAll_le (k := k) (xs := xs)
    simp only [PyData.depthAll, List.mem_cons, forall_eq_or_imp, ← this]
    omega
structure Fit (M k W : Nat) (d : PyData) : Prop where
  ok : fit M d
  dp : d.depth ≤ k
  wt : wt d ≤ W
theorem Fit.mono {M M' k k' W W' : Nat} {d : PyData} (h : Fit M k W d) (h1 : M ≤ M') (h2 : k ≤ k') (h3 : W ≤ W') : Fit M' k' W' d := ⟨fit_mono h1 h.ok, Nat.le_trans h.dp h2, Nat.le_trans h.wt h3⟩
theorem Fit.at {M k W : Nat} {ds : List PyData} {d : PyData} (h : Fit M k W (.tuple ds)) (hm : d ∈ ds) : Fit M (k - 1) W d ∧ d.depth + 1 ≤ (PyData.tuple ds).depth ∧ 1 ≤ k := by
  have h1 : fitAll M ds := by have := h.ok; simpa only [fit] using this
  have h2 := h.dp
  simp only [PyData.depth] at h2
  have h3 : ∀ x ∈ ds, x.depth ≤ PyData.depthAll ds := depthAll_le.mp (Nat.le_refl _)
  have h4 := h3 d hm
  refine ⟨⟨fitAll_iff.mp h1 d hm, by omega, ?_⟩, by simp only [PyData.depth]; omega, by omega⟩
  obtain ⟨a, b, rfl⟩ := List.append_of_mem hm
  have h5 := h.wt
  simp only [Pv.wt, wtAll_app, wtAll] at h5
  omega
/-- a tuple made of parts -/
theorem Fit.tup {M k W : Nat} {ds : List PyData} (h1 : ∀ d ∈ ds, fit M d ∧ d.depth + 1 ≤ k) (h0 : 1 ≤ k) (h2 : wtAll ds + 3 ≤ W) : Fit M k W (.tuple ds) := by
  refine ⟨by simp only [fit]; exact fitAll_iff.mpr fun d hd => (h1 d hd).1, ?_, by simpa only [Pv.wt] using h2⟩
  simp only [PyData.depth]
  have : PyData.depthAll ds ≤ k - 1 := depthAll_le.mpr fun d hd => by have := (h1 d hd).2; omega
  omega
theorem Fit.lst {M k W : Nat} {ds : List PyData} (h1 : ∀ d ∈ ds, fit M d ∧ d.depth + 1 ≤ k) (h0 : 1 ≤ k) (h2 : wtAll ds + 3 ≤ W) : Fit M k W (.list ds) := by
  refine ⟨by simp only [fit]; exact fitAll_iff.mpr fun d hd => (h1 d hd).1, ?_, by simpa only [Pv.wt] using h2⟩
  simp only [PyData.depth]
  have : PyData.depthAll ds ≤ k - 1 := depthAll_le.mpr fun d hd => by have := (h1 d hd).2; omega
  omega
theorem Fit.parts {M k W : Nat} {ds : List PyData} (h : Fit M k W (.tuple ds)) : (∀ d ∈ ds, fit M d ∧ d.depth + 1 ≤ k) ∧ 1 ≤ k ∧ wtAll ds + 3 ≤ W := by
  have h0 : 1 ≤ k := by have := h.dp; simp only [PyData.depth] at this; omega
  refine ⟨fun d hd => ⟨(h.at hd).1.ok, ?_⟩, h0, by have := h.wt; simpa only [Pv.wt] using this⟩
  have := (h.at hd).1.dp
  omega
theorem Fit.int {M k W : Nat} {i : Int} (h : i.natAbs ≤ M) (hW : 40 ≤ W) : Fit M k W (.int i) := ⟨by simpa only [fit] using h, by simp [PyData.depth], by simpa only [Pv.wt] using hW⟩
/-- what is shown together -/
theorem fit_pair {M : Nat} (hM : M < 10 ^ 35) {k W : Nat} {a b : PyData} (ha : Fit M k W a) (hb : Fit M k W b) (hk : k ≤ 50) (hW : W ≤ 1000000) :
    (PyData.list [a, b]).showable = true ∧ (PyData.list [a, b]).depth ≤ 60 ∧ (PyData.list [a, b]).shown.length ≤ sizeLine := by
  have h : Fit M (k + 1) (2 * W + 10) (.list [a, b]) := by
    refine Fit.lst ?_ (by omega) ?_
    · intro d hd
      rcases List.mem_cons.mp hd with rfl | hd
      · exact ⟨ha.ok, by have := ha.dp; omega⟩
      · rcases List.mem_cons.mp hd with rfl | hd
        · exact ⟨hb.ok, by have := hb.dp; omega⟩
        · cases hd
    · have h1 := ha.wt
      have h2 := hb.wt
      simp only [wtAll]; omega
  obtain ⟨s1, s2⟩ := fit_ok hM h.ok
  refine ⟨s1, Nat.le_trans h.dp (by omega), Nat.le_trans s2 (Nat.le_trans h.wt ?_)⟩
  rw [sizeLine_eq]; omega
/-! the data of instances and assignments -/
theorem fit_dI {M : Nat} {ns : List Int} (h : ∀ i ∈ ns, i.natAbs ≤ M) : Fit M 1 (ns.length * 42 + 3) (dI ns) := by
  have hw : wtAll (ns.map PyData.int) = ns.length * 42 := by
    clear h
    induction ns with
    | nil => rfl
    | cons a ns ih => simp only [List.map_cons, wtAll, wt, ih, List.length_cons]; omega
  refine Fit.tup ?_ (by decide) (by rw [hw]; exact Nat.le_refl _)
  intro d hd
  obtain ⟨i, hi, rfl⟩ := List.mem_map.mp hd
  exact ⟨by simpa only [fit] using h i hi, by simp [PyData.depth]⟩
theorem wtAll_le {W : Nat} : ∀ {ds : List PyData}, (∀ d ∈ ds, wt d ≤ W) → wtAll ds ≤ ds.length * (W + 2)
  | [], _ => by simp [wtAll]
  | d :: ds, h => by
    have h1 := h d (by simp)
    have h2 := wtAll_le (W := W) (ds := ds) (fun x hx => h x (by simp [hx]))
    simp only [wtAll, List.length_cons, Nat.succ_mul]; omega
theorem fit_dAsg {M : Nat} {rows : List (List Int)} (h : ∀ row ∈ rows, row.length ≤ 10 ∧ ∀ i ∈ row, i.natAbs ≤ M) (hr : rows.length ≤ 20) : Fit M 2 10000 (dAsg rows) := by
  unfold dAsg
  refine Fit.tup ?_ (by decide) ?_
  · intro d hd
    obtain ⟨row, hrow, rfl⟩ := List.mem_map.mp hd
    have := fit_dI (M := M) (h row hrow).2
    exact ⟨this.ok, by have := this.dp; omega⟩
  · have := wtAll_le (W := 430) (ds := rows.map dI) (by
      intro d hd
      obtain ⟨row, hrow, rfl⟩ := List.mem_map.mp hd
      have := (fit_dI (M := M) (h row hrow).2).wt
      have := (h row hrow).1
      omega)
    rw [List.length_map] at this
    omega
theorem fit_dInst {M : Nat} {cs : List Int} {gs : List Gp} (hc : cs.length ≤ 10 ∧ ∀ i ∈ cs, i.natAbs ≤ M) (hg : gs.length ≤ 20) (h : ∀ g ∈ gs, g.1.length ≤ 10 ∧ (∀ i ∈ g.1, i.natAbs ≤ M) ∧ g.2.natAbs ≤ M) : Fit M 5 20000 (dInst cs gs) := by
  have f1 := fit_dI hc.2
  have f2 : ∀ g ∈ gs, Fit M 2 600 (dGrp g) := by
    intro g hgm
    have f3 := fit_dI (M := M) (h g hgm).2.1
    have hl := (h g hgm).1
    unfold dGrp
    refine Fit.tup ?_ (by decide) ?_
    · intro d hd
      rcases List.mem_cons.mp hd with rfl | hd
      · exact ⟨f3.ok, by have := f3.dp; omega⟩
      · rcases List.mem_cons.mp hd with rfl | hd
        · exact ⟨by simpa only [fit] using (h g hgm).2.2, by simp [PyData.depth]⟩
        · cases hd
    · have := f3.wt
      simp only [wtAll, Pv.wt]; omega
  have f4 : Fit M 3 13000 (.tuple (gs.map dGrp)) := by
    refine Fit.tup ?_ (by decide) ?_
    · intro d hd
      obtain ⟨g, hgm, rfl⟩ := List.mem_map.mp hd
      exact ⟨(f2 g hgm).ok, by have := (f2 g hgm).dp; omega⟩
    · have := wtAll_le (W := 600) (ds := gs.map dGrp) (by
        intro d hd
        obtain ⟨g, hgm, rfl⟩ := List.mem_map.mp hd
        exact (f2 g hgm).wt)
      rw [List.length_map] at this
      omega
  unfold dInst
  refine Fit.tup ?_ (by decide) ?_
  · intro d hd
    rcases List.mem_cons.mp hd with rfl | hd
    · exact ⟨f1.ok, by have := f1.dp; omega⟩
    · rcases List.mem_cons.mp hd with rfl | hd
      · exact ⟨f4.ok, by have := f4.dp; omega⟩
      · cases hd
  · have h1 := f1.wt
    have h2 := f4.wt
    have := hc.1
    simp only [wtAll]; omega
end Pv

namespace Pv
open PySem PySem.Spec PyProof.Rows L2
/-! repr of any such value -/
theorem call_reprA {X : Cx} (hg : X.A.guards = some []) (hu : X.A.units + 70 < cLine) : CallR X (.builtin "repr")
    (fun xs H Q => ∃ v d st r, xs = [v] ∧ Dq X.K st r H v d ∧ d.showable = true ∧ d.depth ≤ 60 ∧ d.shown.length ≤ sizeLine ∧ Q (.str d.shown) H) := by
  intro pins s σ H xs us Q I rv h
  obtain ⟨v, d, st, r, rfl, hd, h1, h3, h4, q⟩ := h
  by_cases hv : ∃ a, v = .ref a
  · obtain ⟨a, rfl⟩ := hv
    exact call_reprQ hg hu pins s σ H _ us Q I rv ⟨a, d, st, r, rfl, hd, h1, h3, h4, q⟩
  · obtain ⟨u, rfl, ru⟩ := vals1 rv
    cases hd with
    | non => cases ru; exact PySem.P.repr_of_none ⟨.str _, H, I.tok _, ⟨_, rfl⟩, q⟩
    | bl b => cases ru; cases b <;> exact PySem.P.repr_of_bool ⟨.str _, H, I.tok _, ⟨_, rfl⟩, q⟩
    | int i =>
      obtain ⟨t, rfl⟩ := ru
      exact PySem.P.repr_of_int (by simpa [PyData.showable] using h1) ⟨.str _, H, I.tok _, ⟨_, rfl⟩, q⟩
    | str x =>
      obtain ⟨t, rfl⟩ := ru
      exact PySem.P.repr_of_str ⟨.str _, H, I.tok _, ⟨_, rfl⟩, q⟩ h4
    | lst _ => exact absurd ⟨_, rfl⟩ hv
    | tup _ => exact absurd ⟨_, rfl⟩ hv
    | dct _ => exact absurd ⟨_, rfl⟩ hv
/-! written values -/
def tLit (K : PySem.W.Frag) (d : PyData) : TE := fun _ H Q => ∃ st r, (H st ≠ none ∧ H r ≠ none) ∧ ∀ H' v, Same H H' → Dq K st r H' v d → Q v H'
def tLits (K : PySem.W.Frag) (ds : List PyData) : TA := fun _ H Q => ∃ st r, (H st ≠ none ∧ H r ≠ none) ∧ ∀ H' vs, Same H H' → DqAll K st r H' vs ds → Q vs H'
theorem occ {H H' : Hp} {st r : Addr} (h : H st ≠ none ∧ H r ≠ none) (s : Same H H') : H' st ≠ none ∧ H' r ≠ none := by
  obtain ⟨h1, h2⟩ := h
  constructor
  · cases e : H st with
    | none => exact absurd e h1
    | some o => rw [s _ _ e]; simp
  · cases e : H r with
    | none => exact absurd e h2
    | some o => rw [s _ _ e]; simp
theorem occ_ne {H : Hp} {st r p : Addr} (h : H st ≠ none ∧ H r ≠ none) (np : H p = none) : p ≠ st ∧ p ≠ r := ⟨fun e => h.1 (e ▸ np), fun e => h.2 (e ▸ np)⟩
theorem DqAll.rep {K : PySem.W.Frag} {st r : Addr} {H : Hp} {vs : List V} {ds : List PyData} (h : DqAll K st r H vs ds) : ∀ k : Nat, DqAll K st r H (List.replicate k vs).flatten (List.replicate k ds).flatten
  | 0 => .nil
  | k + 1 => by
    rw [List.replicate_succ, List.replicate_succ, List.flatten_cons, List.flatten_cons]
    exact h.app (DqAll.rep h k)
section
variable {X : Cx} {e : Expr} {es : List Expr} {pos p1 p2 : Pos} {d : PyData} {ds : List PyData}
theorem pe_mono {t t' : TE} (h : PE X e t) (m : ∀ σ H Q, t' σ H Q → t σ H Q) : PE X e t' := ⟨fun pins s σ H Q I q => h.run pins s σ H Q I (m _ _ _ q)⟩
theorem pa_mono {t t' : TA} (h : PA X es t) (m : ∀ σ H Q, t' σ H Q → t σ H Q) : PA X es t' := ⟨fun pos pins s σ H Q I q => h.run pos pins s σ H Q I (m _ _ _ q)⟩
theorem lit_c {v : V} (h : PE X e (tC v)) (hd : ∀ st r H, Dq X.K st r H v d) : PE X e (tLit X.K d) := pe_mono h fun σ H Q ⟨st, r, _, q⟩ => q H v (Same.refl H) (hd st r H)
theorem lit_int {n : Int} (h : PE X e (tC (.int n))) : PE X e (tLit X.K (.int n)) := lit_c h fun _ _ _ => .int n
theorem lit_bl {b : Bool} (h : PE X e (tC (.bl b))) : PE X e (tLit X.K (.bool b)) := lit_c h fun _ _ _ => .bl b
theorem lit_str {x : Str} (h : PE X e (tC (.str x))) : PE X e (tLit X.K (.str x)) := lit_c h fun _ _ _ => .str x
theorem lit_non (h : PE X e (tC .non)) : PE X e (tLit X.K .none) := lit_c h fun _ _ _ => .non
theorem lit_pow {a b : Int} (h : PE X e (tOp (rI CPow fun i j => .int (i ^ j.toNat)) (tC (.int a)) (tC (.int b)))) (hc : CPow a b) : PE X e (tLit X.K (.int (a ^ b.toNat))) :=
  pe_mono h fun σ H Q ⟨st, r, _, q⟩ => ⟨a, b, rfl, rfl, hc, q H _ (Same.refl H) (.int _)⟩
theorem lit_add {e1 e2 : Expr} {a b : Int} (h1 : PE X e1 (tLit X.K (.int a))) (h2 : PE X e2 (tLit X.K (.int b))) : PE X (.BinOp e1 .Add e2 pos) (tLit X.K (.int (a + b))) :=
  pe_mono (pe_op op_add h1 h2) fun σ H Q ⟨st, r, oc, q⟩ => ⟨st, r, oc, fun H1 v1 s1 d1 => ⟨st, r, occ oc s1, fun H2 v2 s2 d2 => by
    cases d1; cases d2
    exact ⟨a, b, rfl, rfl, q H2 _ (s1.trans s2) (.int _)⟩⟩⟩
theorem lits_nil : PA X [] (tLits X.K []) := pa_mono pa_nil fun σ H Q ⟨st, r, _, q⟩ => q H [] (Same.refl H) .nil
theorem lits_cons (h : PE X e (tLit X.K d)) (hs : PA X es (tLits X.K ds)) (hq : starEach (e :: es) X.env = (false, eval e X.env) :: starEach es X.env := by rfl) : PA X (e :: es) (tLits X.K (d :: ds)) :=
  pa_mono (pa_cons h hs hq) fun σ H Q ⟨st, r, oc, q⟩ => ⟨st, r, oc, fun H1 v s1 d1 => ⟨st, r, occ oc s1, fun H2 vs s2 d2 => q H2 _ (s1.trans s2) (.cons (d1.lasts (.of s2)) d2)⟩⟩
theorem small6 {n : Nat} (h : n ≤ 1000000) : n ≤ sizeLine := Nat.le_of_lt (Nat.lt_of_le_of_lt h (by decide))
theorem lit_tup {k : Nat} (h : PA X es (tLits X.K ds)) (hl : ds.length ≤ 1000000) : PE X (.Tuple es k pos) (tLit X.K (.tuple ds)) :=
  pe_mono (pe_tup h) fun σ H Q ⟨st, r, oc, q⟩ => ⟨st, r, oc, fun H1 vs s1 d1 => ⟨by rw [DqAll.len d1]; exact small6 hl, fun p np => q _ _ (s1.trans (sameNew np)) (.tup (SqT.of upd_same) (d1.lasts (.of (sameNew np))))⟩⟩
theorem lit_lst (h : PA X es (tLits X.K ds)) (hl : ds.length ≤ 1000000) : PE X (.List es pos) (tLit X.K (.list ds)) :=
  pe_mono (pe_lstS h) fun σ H Q ⟨st, r, oc, q⟩ => ⟨st, r, oc, fun H1 vs s1 d1 => ⟨by rw [DqAll.len d1]; exact small6 hl, fun p np ns => q _ _ (s1.trans (sameNew np)) (.lst upd_same (occ_ne (occ oc s1) np).1 (occ_ne (occ oc s1) np).2 ns (d1.lasts (.of (sameNew np))))⟩⟩
theorem lit_dict : PE X (.Dict [] [] pos) (tLit X.K (.dict [])) :=
  pe_mono pe_dnewK fun σ H Q ⟨st, r, oc, q⟩ => fun p np => q _ _ (sameNew np) (.dct (kvs := []) upd_same)
theorem lit_rep {e2 : Expr} {n : Int} (k : Nat) (h : PE X e (tLit X.K (.tuple ds))) (h2 : PE X e2 (tC (.int n))) (hk : n = (k : Nat)) (h1 : k ≠ 1) (hne : ds ≠ []) (hk2 : k ≤ 1000) (hl : ds.length ≤ 1000) :
    PE X (.BinOp e .Mult e2 pos) (tLit X.K (.tuple (List.replicate k ds).flatten)) :=
  pe_mono (pe_op op_repA h h2) fun σ H Q ⟨st, r, oc, q⟩ => ⟨st, r, oc, fun H1 v s1 d1 => by
    cases d1 with
    | @tup a xs _ hT ha =>
      have hx := DqAll.len ha
      refine ⟨a, k, xs, rfl, by rw [hk], hT, ?_, hk2, by omega, fun z => absurd z h1, fun _ p np => q _ _ (s1.trans (sameNew np)) (.tup (SqT.of upd_same) ((ha.rep k).lasts (.of (sameNew np))))⟩
      intro z
      subst z
      exact hne (List.eq_nil_of_length_eq_zero (by simpa using hx.symm))⟩
end
/-- a list and a written list behind it -/
theorem cat_lits {K : PySem.W.Frag} {st r L : Addr} {σ : L2.St} {H1 : Hp} {ds es : List PyData} {Q : VK} {vs : List V} (e1 : H1 L = some (.lst vs)) (h1 : DqAll K st r H1 vs ds) (hoc : H1 st ≠ none ∧ H1 r ≠ none) (hlen : ds.length + es.length ≤ 1000000)
    (hq : ∀ H' L' vs', Same H1 H' → H' L' = some (.lst vs') → L' ≠ st → L' ≠ r → DqAll K st r H' vs' (ds ++ es) → Q (.ref L') H') : tLst (tLits K es) σ H1 (fun y H2 => rCat (.ref L) y H2 Q) := by
  refine ⟨st, r, hoc, fun H2 v2 s2 h2 => ⟨by rw [DqAll.len h2]; exact small6 (by omega), fun M nM => ?_⟩⟩
  refine ⟨L, M, vs, v2, rfl, rfl, upNew nM (s2 _ _ e1), upd_same, by rw [DqAll.len h1, DqAll.len h2]; exact small6 (by omega), fun N nN => ?_⟩
  have sM := sameNew (o := .lst v2) nM
  have sN := sameNew (o := .lst (vs ++ v2)) nN
  have s1N := (s2.trans sM).trans sN
  have hN := occ_ne (occ (occ hoc s2) sM) nN
  exact hq _ N _ s1N upd_same hN.1 hN.2 ((h1.lasts (.of s1N)).app (h2.lasts (.of (sM.trans sN))))
/-! how large, by looking -/
mutual
def fitB (M L : Nat) : PyData → Bool
  | .none => true
  | .bool _ => true
  | .int i => decide (i.natAbs ≤ M)
  | .str x => decide ((reprText x).length ≤ L)
  | .list xs => fitAllB M L xs
  | .tuple xs => fitAllB M L xs
  | .dict kvs => decide ((PyData.shown (.dict kvs)).length ≤ 40) && PyData.showable (.dict kvs)
def fitAllB (M L : Nat) : List PyData → Bool
  | [] => true
  | x :: xs => fitB M L x && fitAllB M L xs
end
end Pv

namespace Pv
open PySem PySem.Spec PyProof.Rows L2
section
variable {K : PySem.W.Frag} {H : Hp} {a b : Addr} {xs ys : List V} {Q : VK}
/-! slices and sums of tuples, whichever object comes back -/
theorem take_eq (hP : SqT K H a xs) (n : Nat) (h : ∀ (H' : Hp) (b : Addr), Same H H' → SqT K H' b (xs.take n) → Q (.ref b) H') : rSlA K (.ref a) none (some (n : Int)) H Q := by
  have hcut : cutV xs none (some (n : Int)) = xs.take n := cut_to _ n
  refine ⟨a, _, rfl, hP, fun hw => ?_, fun _ p np => ?_⟩
  · refine h H a (Same.refl _) ?_
    have e : xs.take n = xs := by
      rw [← hcut]
      unfold cutV
      rw [hw.1, hw.2, List.drop_zero, Nat.sub_zero, List.take_length]
    rw [e]; exact hP
  · refine h _ p (sameNew np) (SqT.of ?_)
    rw [upd_same, hcut]
theorem cut_tail (xs : List V) (n : Nat) : cutV xs (some (n : Int)) none = xs.drop n := by
  unfold cutV
  rw [HT.sIx_nat, HT.sIx_none]
  by_cases h : n ≤ xs.length
  · rw [Nat.min_eq_left h, List.take_of_length_le (by rw [List.length_drop]; exact Nat.le_refl _)]
  · rw [Nat.min_eq_right (by omega), List.drop_eq_nil_of_le (Nat.le_refl _), List.drop_eq_nil_of_le (by omega)]; simp
theorem drop_eq (hP : SqT K H a xs) (n : Nat) (h : ∀ (H' : Hp) (b : Addr), Same H H' → SqT K H' b (xs.drop n) → Q (.ref b) H') : rSlA K (.ref a) (some (n : Int)) none H Q := by
  have hcut := cut_tail xs n
  refine ⟨a, _, rfl, hP, fun hw => ?_, fun _ p np => ?_⟩
  · refine h H a (Same.refl _) ?_
    have e : xs.drop n = xs := by
      rw [← hcut]
      unfold cutV
      rw [hw.1, hw.2, List.drop_zero, Nat.sub_zero, List.take_length]
    rw [e]; exact hP
  · refine h _ p (sameNew np) (SqT.of ?_)
    rw [upd_same, hcut]
theorem cat_eq (ha : SqT K H a xs) (hb : SqT K H b ys) (hz : xs.length + ys.length ≤ sizeLine) (h : ∀ (H' : Hp) (p : Addr), Same H H' → SqT K H' p (xs ++ ys) → Q (.ref p) H') : rCatA K (.ref a) (.ref b) H Q := by
  refine ⟨a, b, xs, ys, rfl, rfl, ha, hb, hz, fun e => ?_, fun _ e => ?_, fun _ _ p np => ?_⟩
  · subst e; exact h H b (Same.refl _) (by simpa using hb)
  · subst e; exact h H a (Same.refl _) (by simpa using ha)
  · exact h _ p (sameNew np) (SqT.of upd_same)
end
/-! the greatest of a tuple of ints -/
def rMaxT (K : PySem.W.Frag) : RC := fun xs H Q => ∃ (a : Addr) (ns : List Int), xs = [.ref a] ∧ SqT K H a (ns.map V.int) ∧ 0 < ns.length ∧ ∀ m, m ∈ ns → (∀ y ∈ ns, y ≤ m) → Q (.int m) H
theorem call_maxT {X : Cx} (hc : X.calm = true) : CallR X (.builtin "max") (rMaxT X.K) := by
  intro pins s σ H xs us Q I r h
  obtain ⟨a, ns, rfl, hT, hne, q⟩ := h
  obtain ⟨u, rfl, rfl⟩ := vals1 r
  obtain ⟨its, rv, ht, hz⟩ := I.tuple hT
  have hi : IntsAre its ns := rv.ints
  obtain ⟨ys, e⟩ := hi.allInts.items
  have hn : numsOf (intItems ys).toList = ns := by rw [← e]; exact hi.numsOf
  rw [nums_intItems] at hn
  rw [e] at ht
  subst hn
  have hsz : 0 < ys.size := by simpa using hne
  have ht' : s.heap.IsTuple a (intItems ys) := ht
  have hlt : a < s.heap.objs.size := by obtain ⟨_, z, _⟩ := ht; exact Heap.lt_size z
  refine call_max_walk (wpAny_pyIter_tuple ht' ?_)
  refine ⟨_, _, _, _, _, _, _, rfl, Walks.tuple (A := X.A.in1) (I.ok.hd hc) _ a (Nat.ne_of_lt hlt) (intItems ys), ⟨⟨_, Heap.get?_push_size _ rfl, rfl, rfl⟩, ht'.push _⟩, ?_, by simpa [intItems] using hsz, CmpOf.ints_gt (numAt ys) (fun _ _ => intItems_at), ?_⟩
  · intro b hb
    show b < (s.heap.push _).objs.size
    rw [Heap.size_push]
    simp only [List.mem_cons, List.not_mem_nil, or_false] at hb
    rcases hb with rfl | rfl
    · exact Nat.lt_succ_self _
    · exact Nat.lt_succ_of_lt hlt
  · intro v h' tk hP hk
    have hP' : (intItems ys)[argBest (fun i j => decide (numAt ys i > numAt ys j)) (ys.size - 1)]? = some v := by simpa [intItems] using hP
    obtain ⟨t, rfl⟩ := intItems_at hP'
    obtain ⟨h1, h2⟩ := argBest_gt (numAt ys) (ys.size - 1)
    refine ⟨.int _, H, I.kept (t' := tk) (h' := h') ?_, ⟨_, rfl⟩, q _ ?_ ?_⟩
    · intro b o eb
      refine hk b o (fun hm => ?_) (Heap.get?_push_of_some _ eb)
      exact absurd (Heap.lt_size eb) ((List.mem_singleton.mp hm) ▸ Nat.lt_irrefl _)
    · rw [numAt_eq]; exact PySem.getD_mem (by rw [List.length_map, Array.length_toList]; omega)
    · intro y hy
      obtain ⟨j, hj, rfl⟩ := mem_getD hy
      rw [List.length_map, Array.length_toList] at hj
      rw [← numAt_eq]; exact h2 j (by omega)
end Pv

namespace Pv
open PySem PySem.Spec PyProof.Rows L2
/-! another drawing state: a list of the great numbers that are left, one number of the whole script, and how often it was mixed -/
structure DV (H : Hp) (st g : Addr) (t : Nat) : Prop where
  ex : ∃ (w : Int) (k : Nat) (gr : List Int), H st = some (.lst [.ref g, .int w, .int k]) ∧ H g = some (.lst (gr.map V.int)) ∧ 0 ≤ w ∧ w < 2305843009213693951 ∧ k ≤ t ∧ gr.length ≤ 63
  n1 : st ≠ g
section
variable {H H1 H2 : Hp} {st g p : Addr} {t : Nat} {o : HO}
theorem DV.tup (d : DV H st g t) (e : Ext st g H H1) : TupK H H1 := by
  obtain ⟨w, k, gr, hs, hg, _⟩ := d.ex
  intro b xs
  refine ⟨fun h => ?_, fun u h => ?_⟩
  · exact e _ _ h (ne_of h hs (by intro z; cases z)) (ne_of h hg (by intro z; cases z))
  · exact e _ _ h (ne_of h hs (by intro z; cases z)) (ne_of h hg (by intro z; cases z))
theorem DV.same (d : DV H st g t) (s : Same H H1) : DV H1 st g t := by
  obtain ⟨w, k, gr, hs, hg, q⟩ := d.ex
  exact ⟨⟨w, k, gr, s _ _ hs, s _ _ hg, q⟩, d.n1⟩
theorem DV.new (d : DV H st g t) (np : H p = none) : DV (upd H p o) st g t := d.same (sameNew np)
theorem DV.put (d : DV H st g t) (h1 : p ≠ st) (h2 : p ≠ g) : DV (upd H p o) st g t := by
  obtain ⟨w, k, gr, hs, hg, q⟩ := d.ex
  exact ⟨⟨w, k, gr, by rw [upd_ne h1.symm]; exact hs, by rw [upd_ne h2.symm]; exact hg, q⟩, d.n1⟩
theorem DV.off (d : DV H st g t) (np : H p = none) : p ≠ st ∧ p ≠ g := by
  obtain ⟨w, k, gr, hs, hg, q⟩ := d.ex
  exact ⟨(ne_of_none hs np).symm, (ne_of_none hg np).symm⟩
theorem DV.nil (d : DV H1 st g t) (x : Ext st g H H1) (np : H1 p = none) : H p = none := by
  obtain ⟨o1, o2⟩ := d.off np
  cases e : H p with
  | none => rfl
  | some o => have := x _ _ e o1 o2; rw [np] at this; cases this
theorem DV.lasts (d : DV H st g t) (x : Ext st g H H1) : Lasts st g H H1 := by
  obtain ⟨w, k, gr, hs, hg, _⟩ := d.ex
  refine ⟨d.tup x, fun a xs e n1 n2 => x _ _ e n1 n2, fun a kvs e => ?_⟩
  exact x _ _ e (ne_of e hs (by intro z; cases z)) (ne_of e hg (by intro z; cases z))
theorem DV.mono (d : DV H st g t) {t' : Nat} (h : t ≤ t') : DV H st g t' := by
  obtain ⟨w, k, gr, hs, hg, h1, h2, h3, h4⟩ := d.ex
  exact ⟨⟨w, k, gr, hs, hg, h1, h2, by omega, h4⟩, d.n1⟩
theorem DV.occ (d : DV H st g t) : H st ≠ none ∧ H g ≠ none := by
  obtain ⟨w, k, gr, hs, hg, _⟩ := d.ex
  exact ⟨by rw [hs]; simp, by rw [hg]; simp⟩
end
end Pv

namespace Pv
open PySem PySem.Spec PyProof.Rows L2
/-! a comprehension whose elements only make new objects -/
def LcP {α : Type} (H1 : Hp) (D : Addr) (zs : List α) (F : α → Option V) (i : Nat) (H : Hp) : Prop := Same H1 H ∧ H D = some (.lst ((zs.take i).filterMap F))
section
variable {α : Type} {H1 H H' : Hp} {D : Addr} {zs : List α} {F : α → Option V} {i : Nat} {x : α} {y : V}
theorem LcP.start (nD : H1 D = none) : LcP H1 D zs F 0 (upd H1 D (.lst [])) := ⟨sameNew nD, by rw [upd_same]; rfl⟩
theorem LcP.yes (h : LcP H1 D zs F i H) (nD : H1 D = none) (s : Same H H') (hx : zs[i]? = some x) (hF : F x = some y) (hi : i ≤ 1000000) : ∃ acc, H' D = some (.lst acc) ∧ acc.length < sizeLine ∧ LcP H1 D zs F (i + 1) (upd H' D (.lst (acc ++ [y]))) := by
  refine ⟨_, s _ _ h.2, ?_, samePut (h.1.trans s) nD, ?_⟩
  · have h1 := List.length_filterMap_le F (zs.take i)
    have h2 := List.length_take_le i zs
    exact small (by omega)
  · rw [upd_same, take_snoc hx, List.filterMap_append]
    simp [hF]
theorem LcP.no (h : LcP H1 D zs F i H) (s : Same H H') (hx : zs[i]? = some x) (hF : F x = none) : LcP H1 D zs F (i + 1) H' := by
  refine ⟨h.1.trans s, ?_⟩
  rw [s _ _ h.2, take_snoc hx, List.filterMap_append]
  simp [hF]
theorem LcP.done (h : LcP H1 D zs F i H) (hi : zs.length ≤ i) : H D = some (.lst (zs.filterMap F)) := by have := h.2; rwa [List.take_of_length_le hi] at this
end
theorem fm_map {α : Type} (f : α → V) (zs : List α) : zs.filterMap (fun x => some (f x)) = zs.map f := by
  induction zs with
  | nil => rfl
  | cons z zs ih => simp
theorem fm_filter {α : Type} (p : α → Bool) (f : α → V) (zs : List α) : zs.filterMap (fun x => if p x = true then some (f x) else none) = (zs.filter p).map f := by
  induction zs with
  | nil => rfl
  | cons z zs ih => by_cases h : p z = true <;> simp [h, ih]
def Rl {β : Type} (R : V → β → Prop) (vs : List V) (rs : List β) : Prop := vs.length = rs.length ∧ ∀ (j : Nat) (v : V) (r : β), vs[j]? = some v → rs[j]? = some r → R v r
section
variable {β : Type} {R R' : V → β → Prop} {vs : List V} {rs : List β}
theorem Rl.nil : Rl R [] [] := ⟨rfl, fun j v r h => by simp at h⟩
theorem Rl.mono (h : Rl R vs rs) (f : ∀ v r, R v r → R' v r) : Rl R' vs rs := ⟨h.1, fun j v r h1 h2 => f _ _ (h.2 j v r h1 h2)⟩
theorem Rl.snoc {v : V} {r : β} (h : Rl R vs rs) (hv : R v r) : Rl R (vs ++ [v]) (rs ++ [r]) := by
  refine ⟨by simp [h.1], fun j v' r' h1 h2 => ?_⟩
  by_cases hj : j < vs.length
  · rw [List.getElem?_append_left hj] at h1
    rw [List.getElem?_append_left (by rw [← h.1]; exact hj)] at h2
    exact h.2 j v' r' h1 h2
  · rw [List.getElem?_append_right (by omega)] at h1
    rw [List.getElem?_append_right (by rw [← h.1]; omega)] at h2
    have e : j - vs.length = 0 := by have := (List.getElem?_eq_some_iff.mp h1).1; simp at this; omega
    rw [e] at h1
    rw [← h.1, e] at h2
    simp at h1 h2
    rw [← h1, ← h2]; exact hv
theorem Rl.at {j : Nat} {v : V} (h : Rl R vs rs) (hv : vs[j]? = some v) : ∃ r, rs[j]? = some r ∧ R v r := by
  have hj : j < rs.length := by rw [← h.1]; exact (List.getElem?_eq_some_iff.mp hv).1
  exact ⟨rs[j], List.getElem?_eq_getElem hj, h.2 j v _ hv (List.getElem?_eq_getElem hj)⟩
end
theorem sqS {K : PySem.W.Frag} {H H' : Hp} {a : Addr} {xs : List V} (s : Same H H') (h : SqT K H a xs) : SqT K H' a xs := (TupK.of s).sq h
theorem atS {xs : List Int} {j : Nat} (h : j < xs.length) : (xs.map V.int)[j]? = some (.int xs[j]) := by rw [List.getElem?_map, List.getElem?_eq_getElem h]; rfl
section
variable {X : Cx}
def rEqNilT (K : PySem.W.Frag) : R2 := fun x y H Q => ∃ (a b : Addr) (xs : List V), x = .ref a ∧ y = .ref b ∧ SqT K H a xs ∧ SqT K H b [] ∧ Q (.bl xs.isEmpty) H
theorem op_eqNilT (hu : X.A.units < cLine) : OpR X (compareOp .Eq) (rEqNilT X.K) := by
  intro pins s σ H x y v u Q I rx ry h
  obtain ⟨a, b, xs, rfl, rfl, ha, hb, q⟩ := h
  cases rx
  cases ry
  obtain ⟨its, r1, p1, z1⟩ := I.tuple ha
  obtain ⟨its2, r2, p2, z2⟩ := I.tuple hb
  cases r2
  have hl := r1.length
  have key := SeqAt.RcAt.tuples (A := X.A) (e := fun _ => true) (show s.heap.IsTuple a its.toArray from p1) (show s.heap.IsTuple b ([] : List Value).toArray from p2) hu (fun j _ h2 => absurd h2 (Nat.not_lt_zero _)) X.prog X.w
  have e : ((List.range (min its.toArray.size ([] : List Value).toArray.size)).all (fun _ => true) && its.toArray.size == ([] : List Value).toArray.size) = xs.isEmpty := by
    rw [List.size_toArray, ← hl]
    cases xs <;> simp
  rw [e] at key
  exact key _ _ ⟨.bl _, H, I, rfl, q⟩
end
end Pv

namespace Pv
open PySem PySem.Spec PyProof.Rows L2
section
variable {X : Cx} {e : Expr}
theorem lit_neg {n : Int} (h : PE X e (tUn (rU fun i => .int (-i)) (tC (.int n)))) : PE X e (tLit X.K (.int (-n))) :=
  pe_mono h fun σ H Q ⟨st, r, _, q⟩ => ⟨n, rfl, q H _ (Same.refl H) (.int _)⟩
theorem lit_a1 (h : PE X e (tDisp [(tC (.str "a"), tC (.int 1))])) : PE X e (tLit X.K (.dict [(.str "a", .int 1)])) :=
  pe_mono h fun σ H Q ⟨st, r, oc, q⟩ => fun p np => ⟨upd_same, [(.inr "a", .int 1)], rfl, by decide, by
    rw [upd_upd]
    exact q _ _ (sameNew np) (.dct (kvs := [(.inr "a", 1)]) (by rw [upd_same]; rfl))⟩
end
section
variable {K : PySem.W.Frag} {H : Hp} {a b : Addr} {xs ys : List V} {Q : VK}
theorem sl_any (hP : SqT K H a xs) (lo hi : Option Int) (h : ∀ (H' : Hp) (b : Addr), Same H H' → SqT K H' b (cutV xs lo hi) → Q (.ref b) H') : rSlA K (.ref a) lo hi H Q := by
  refine ⟨a, _, rfl, hP, fun hw => ?_, fun _ p np => ?_⟩
  · refine h H a (Same.refl _) ?_
    have e : cutV xs lo hi = xs := by
      unfold cutV
      rw [hw.1, hw.2, List.drop_zero, Nat.sub_zero, List.take_length]
    rw [e]; exact hP
  · exact h _ p (sameNew np) (SqT.of upd_same)
theorem cut_ints (xs : List Int) (lo hi : Option Int) : ∃ zs : List Int, cutV (xs.map V.int) lo hi = zs.map V.int ∧ zs.length ≤ xs.length ∧ ∀ z ∈ zs, z ∈ xs := by
  unfold cutV
  generalize HT.sIx (xs.map V.int).length 0 lo = m
  generalize HT.sIx (xs.map V.int).length (xs.map V.int).length hi - m = n
  refine ⟨(xs.drop m).take n, by rw [List.map_take, List.map_drop], ?_, fun z hz => List.mem_of_mem_drop (List.mem_of_mem_take hz)⟩
  rw [List.length_take, List.length_drop]; omega
end
/-! a tuple of ints, of at most L and at most M in size -/
def IT (K : PySem.W.Frag) (H : Hp) (p : Addr) (L M : Nat) : Prop := ∃ xs : List Int, SqT K H p (xs.map V.int) ∧ xs.length ≤ L ∧ ∀ x ∈ xs, x.natAbs ≤ M
section
variable {K : PySem.W.Frag} {H H' : Hp} {a b : Addr} {L L' M M' : Nat} {Q : VK}
theorem IT.tk (h : IT K H a L M) (s : TupK H H') : IT K H' a L M := by obtain ⟨xs, h1, h2⟩ := h; exact ⟨xs, s.sq h1, h2⟩
theorem IT.same (h : IT K H a L M) (s : Same H H') : IT K H' a L M := h.tk (.of s)
theorem IT.mono (h : IT K H a L M) (h1 : L ≤ L') (h2 : M ≤ M') : IT K H a L' M' := by obtain ⟨xs, e, l, m⟩ := h; exact ⟨xs, e, by omega, fun x hx => by have := m x hx; omega⟩
theorem IT.cut (h : IT K H a L M) (lo hi : Option Int) (q : ∀ (H' : Hp) (b : Addr), Same H H' → IT K H' b L M → Q (.ref b) H') : rSlA K (.ref a) lo hi H Q := by
  obtain ⟨xs, e, l, m⟩ := h
  obtain ⟨zs, ez, lz, mz⟩ := cut_ints xs lo hi
  exact sl_any e lo hi fun H' b s hb => q H' b s ⟨zs, by rw [← ez]; exact hb, by omega, fun z hz => m z (mz z hz)⟩
theorem IT.cat (h : IT K H a L M) (h' : IT K H b L' M) (hs : L + L' ≤ 1000000) (q : ∀ (H' : Hp) (p : Addr), Same H H' → IT K H' p (L + L') M → Q (.ref p) H') : rCatA K (.ref a) (.ref b) H Q := by
  obtain ⟨xs, e, l, m⟩ := h
  obtain ⟨ys, e', l', m'⟩ := h'
  refine cat_eq e e' (by rw [List.length_map, List.length_map]; exact small6 (by omega)) fun H' p s hp => q H' p s ⟨xs ++ ys, by rw [List.map_append]; exact hp, by rw [List.length_append]; omega, fun z hz => ?_⟩
  rcases List.mem_append.mp hz with h | h
  · exact m z h
  · exact m' z h
theorem IT.dq {st r : Addr} (h : IT K H a L M) : ∃ xs : List Int, Dq K st r H (.ref a) (dI xs) ∧ xs.length ≤ L ∧ ∀ x ∈ xs, x.natAbs ≤ M := by
  obtain ⟨xs, e, l, m⟩ := h
  exact ⟨xs, .of_dp (to_ints xs) (dI_sq e), l, m⟩
end
/-! a comprehension whose elements are new objects: R tells what they show -/
def LcR {α β : Type} (R : Hp → V → β → Prop) (H1 : Hp) (D : Addr) (zs : List α) (F : α → Option β) (i : Nat) (H : Hp) : Prop := Same H1 H ∧ ∃ vs, H D = some (.lst vs) ∧ Rl (R H) vs ((zs.take i).filterMap F)
section
variable {α β : Type} {R : Hp → V → β → Prop} {H1 H H' : Hp} {D : Addr} {zs : List α} {F : α → Option β} {i : Nat} {x : α} {y : V} {b : β}
theorem LcR.start (nD : H1 D = none) : LcR R H1 D zs F 0 (upd H1 D (.lst [])) := ⟨sameNew nD, [], upd_same, by simpa using Rl.nil⟩
theorem LcR.yes (hR : ∀ H H' v b, TupK H H' → R H v b → R H' v b) (h : LcR R H1 D zs F i H) (nD : H1 D = none) (s : Same H H') (hx : zs[i]? = some x) (hF : F x = some b) (hy : R H' y b) (hi : i ≤ 1000000) : ∃ acc, H' D = some (.lst acc) ∧ acc.length < sizeLine ∧ LcR R H1 D zs F (i + 1) (upd H' D (.lst (acc ++ [y]))) := by
  obtain ⟨s1, vs, e, hv⟩ := h
  have e' := s _ _ e
  refine ⟨vs, e', ?_, samePut (s1.trans s) nD, vs ++ [y], upd_same, ?_⟩
  · have h1 := List.length_filterMap_le F (zs.take i)
    have h2 := List.length_take_le i zs
    rw [hv.1]
    exact small (by omega)
  · have tk : TupK H' (upd H' D (.lst (vs ++ [y]))) := TupK.put e'
    rw [take_snoc hx, List.filterMap_append]
    simp only [List.filterMap_cons, hF, List.filterMap_nil]
    exact Rl.snoc (hv.mono fun v r h => hR _ _ _ _ ((TupK.of s).trans tk) h) (hR _ _ _ _ tk hy)
theorem LcR.no (hR : ∀ H H' v b, TupK H H' → R H v b → R H' v b) (h : LcR R H1 D zs F i H) (s : Same H H') (hx : zs[i]? = some x) (hF : F x = none) : LcR R H1 D zs F (i + 1) H' := by
  obtain ⟨s1, vs, e, hv⟩ := h
  refine ⟨s1.trans s, vs, s _ _ e, ?_⟩
  rw [take_snoc hx, List.filterMap_append]
  simp only [List.filterMap_cons, hF, List.filterMap_nil, List.append_nil]
  exact hv.mono fun v r h => hR _ _ _ _ (.of s) h
theorem LcR.done (h : LcR R H1 D zs F i H) (hi : zs.length ≤ i) : ∃ vs, H D = some (.lst vs) ∧ Rl (R H) vs (zs.filterMap F) := by
  obtain ⟨_, vs, e, hv⟩ := h
  rw [List.take_of_length_le hi] at hv
  exact ⟨vs, e, hv⟩
end
end Pv

namespace Pv
open PySem PySem.Spec PyProof.Rows L2
/-! data whose lists stand at none of the places X -/
mutual
inductive Dw (K : PySem.W.Frag) (X : Addr → Prop) (H : Hp) : V → PyData → Prop
  | non : Dw K X H .non .none
  | bl (b : Bool) : Dw K X H (.bl b) (.bool b)
  | int (i : Int) : Dw K X H (.int i) (.int i)
  | str (x : Str) : Dw K X H (.str x) (.str x)
  | lst {a : Addr} {xs : List V} {ds : List PyData} : H a = some (.lst xs) → ¬ X a → a ≠ sysModules → DwAll K X H xs ds → Dw K X H (.ref a) (.list ds)
  | tup {a : Addr} {xs : List V} {ds : List PyData} : SqT K H a xs → DwAll K X H xs ds → Dw K X H (.ref a) (.tuple ds)
  | dct {a : Addr} {kvs : List (Key × Int)} : H a = some (.dK (kvs.map fun p => (p.1, V.int p.2))) → Dw K X H (.ref a) (.dict (kvs.map fun p => (kD p.1, .int p.2)))
inductive DwAll (K : PySem.W.Frag) (X : Addr → Prop) (H : Hp) : List V → List PyData → Prop
  | nil : DwAll K X H [] []
  | cons {v : V} {vs : List V} {d : PyData} {ds : List PyData} : Dw K X H v d → DwAll K X H vs ds → DwAll K X H (v :: vs) (d :: ds)
end
structure LX (X : Addr → Prop) (H H' : Hp) : Prop where
  tk : TupK H H'
  ls : ∀ a xs, H a = some (.lst xs) → ¬ X a → H' a = some (.lst xs)
  dk : ∀ a kvs, H a = some (.dK kvs) → H' a = some (.dK kvs)
section
variable {K : PySem.W.Frag} {X X' : Addr → Prop} {H H' H2 : Hp} {st g : Addr} {t : Nat}
theorem LX.refl : LX X H H := ⟨.refl _, fun _ _ e _ => e, fun _ _ e => e⟩
theorem LX.of (s : Same H H') : LX X H H' := ⟨.of s, fun a xs e _ => s _ _ e, fun a kvs e => s _ _ e⟩
theorem LX.trans (a : LX X H H') (b : LX X H' H2) : LX X H H2 := ⟨a.tk.trans b.tk, fun p xs e n => b.ls _ _ (a.ls _ _ e n) n, fun p kvs e => b.dk _ _ (a.dk _ _ e)⟩
theorem LX.ext (d : DV H st g t) (x : Ext st g H H') (h1 : X st) (h2 : X g) : LX X H H' := by
  have l := d.lasts x
  exact ⟨l.tk, fun a xs e n => l.ls a xs e (fun z => n (z ▸ h1)) (fun z => n (z ▸ h2)), l.dk⟩
theorem LX.put {D : Addr} {ys : List V} {o : HO} (e : H D = some (.lst ys)) (h : X D) : LX X H (upd H D o) :=
  ⟨TupK.put e, fun a xs ea n => by rw [upd_ne (show a ≠ D from fun z => n (by rw [z]; exact h))]; exact ea, fun a kvs ea => by rw [upd_ne (ne_of ea e (by intro z; cases z))]; exact ea⟩
mutual
theorem Dw.lx (l : LX X H H') : ∀ {d : PyData} {v : V}, Dw K X H v d → Dw K X H' v d
  | .none, _, h => by cases h; exact .non
  | .bool _, _, h => by cases h; exact .bl _
  | .int _, _, h => by cases h; exact .int _
  | .str _, _, h => by cases h; exact .str _
  | .list _, _, h => by
    cases h with
    | lst e n1 n3 hd => exact .lst (l.ls _ _ e n1) n1 n3 (DwAll.lx l hd)
  | .tuple _, _, h => by
    cases h with
    | tup e hd => exact .tup (l.tk.sq e) (DwAll.lx l hd)
  | .dict _, _, h => by
    cases h with
    | dct e => exact .dct (l.dk _ _ e)
theorem DwAll.lx (l : LX X H H') : ∀ {ds : List PyData} {vs : List V}, DwAll K X H vs ds → DwAll K X H' vs ds
  | [], _, h => by cases h; exact .nil
  | _ :: _, _, h => by
    cases h with
    | cons h1 h2 => exact .cons (Dw.lx l h1) (DwAll.lx l h2)
end
mutual
theorem Dw.weak (l : ∀ a, X' a → X a) : ∀ {d : PyData} {v : V}, Dw K X H v d → Dw K X' H v d
  | .none, _, h => by cases h; exact .non
  | .bool _, _, h => by cases h; exact .bl _
  | .int _, _, h => by cases h; exact .int _
  | .str _, _, h => by cases h; exact .str _
  | .list _, _, h => by
    cases h with
    | lst e n1 n3 hd => exact .lst e (fun z => n1 (l _ z)) n3 (DwAll.weak l hd)
  | .tuple _, _, h => by
    cases h with
    | tup e hd => exact .tup e (DwAll.weak l hd)
  | .dict _, _, h => by
    cases h with
    | dct e => exact .dct e
theorem DwAll.weak (l : ∀ a, X' a → X a) : ∀ {ds : List PyData} {vs : List V}, DwAll K X H vs ds → DwAll K X' H vs ds
  | [], _, h => by cases h; exact .nil
  | _ :: _, _, h => by
    cases h with
    | cons h1 h2 => exact .cons (Dw.weak l h1) (DwAll.weak l h2)
end
mutual
theorem Dw.dq {r : Addr} (h1 : X st) (h2 : X r) : ∀ {d : PyData} {v : V}, Dw K X H v d → Dq K st r H v d
  | .none, _, h => by cases h; exact .non
  | .bool _, _, h => by cases h; exact .bl _
  | .int _, _, h => by cases h; exact .int _
  | .str _, _, h => by cases h; exact .str _
  | .list _, _, h => by
    cases h with
    | lst e n1 n3 hd => exact .lst e (fun z => n1 (z ▸ h1)) (fun z => n1 (z ▸ h2)) n3 (DwAll.dq h1 h2 hd)
  | .tuple _, _, h => by
    cases h with
    | tup e hd => exact .tup e (DwAll.dq h1 h2 hd)
  | .dict _, _, h => by
    cases h with
    | dct e => exact .dct e
theorem DwAll.dq {r : Addr} (h1 : X st) (h2 : X r) : ∀ {ds : List PyData} {vs : List V}, DwAll K X H vs ds → DqAll K st r H vs ds
  | [], _, h => by cases h; exact .nil
  | _ :: _, _, h => by
    cases h with
    | cons a b => exact .cons (Dw.dq h1 h2 a) (DwAll.dq h1 h2 b)
end
mutual
theorem Dw.of_dp : ∀ {d : PyData} {v : V}, tupOnly d = true → Dp K H v d → Dw K X H v d
  | .none, _, _, h => by cases h; exact .non
  | .bool _, _, _, h => by cases h; exact .bl _
  | .int _, _, _, h => by cases h; exact .int _
  | .str _, _, _, h => by cases h; exact .str _
  | .list _, _, t, _ => by simp [tupOnly] at t
  | .tuple _, _, t, h => by
    cases h with
    | tup e hd => exact .tup e (DwAll.of_dp (by simpa [tupOnly] using t) hd)
  | .dict _, _, t, _ => by simp [tupOnly] at t
theorem DwAll.of_dp : ∀ {ds : List PyData} {vs : List V}, tupOnlyAll ds = true → DpAll K H vs ds → DwAll K X H vs ds
  | [], _, _, h => by cases h; exact .nil
  | d :: ds, _, t, h => by
    have t' : tupOnly d = true ∧ tupOnlyAll ds = true := by simpa [tupOnlyAll] using t
    cases h with
    | cons h1 h2 => exact .cons (Dw.of_dp t'.1 h1) (DwAll.of_dp t'.2 h2)
end
theorem DwAll.len : ∀ {vs : List V} {ds : List PyData}, DwAll K X H vs ds → vs.length = ds.length
  | _, _, .nil => rfl
  | _, _, .cons _ t => by simp [DwAll.len t]
theorem DwAll.at : ∀ {vs : List V} {ds : List PyData} {i : Nat} {v : V}, DwAll K X H vs ds → vs[i]? = some v → ∃ d, ds[i]? = some d ∧ Dw K X H v d
  | _, _, _, _, .nil, e => by simp at e
  | _, _, 0, _, .cons h _, e => by simp at e; subst e; exact ⟨_, rfl, h⟩
  | _, _, i + 1, v, .cons _ t, e => by
    obtain ⟨d, h1, h2⟩ := DwAll.at (i := i) t (by simpa using e)
    exact ⟨d, by simpa using h1, h2⟩
theorem DwAll.app : ∀ {vs ws : List V} {ds es : List PyData}, DwAll K X H vs ds → DwAll K X H ws es → DwAll K X H (vs ++ ws) (ds ++ es)
  | _, _, _, _, .nil, h => h
  | _, _, _, _, .cons h t, h' => .cons h (DwAll.app t h')
theorem DwAll.snoc {vs : List V} {ds : List PyData} {v : V} {d : PyData} (h : DwAll K X H vs ds) (h' : Dw K X H v d) : DwAll K X H (vs ++ [v]) (ds ++ [d]) := h.app (.cons h' .nil)
end
/-- all that stands -/
def dom (H : Hp) (a : Addr) : Prop := H a ≠ none
theorem dom_same {H H' : Hp} (s : Same H H') {a : Addr} (h : dom H a) : dom H' a := by
  unfold dom at *
  cases e : H a with
  | none => exact absurd e h
  | some o => rw [s _ _ e]; simp
theorem dom_new {H H' : Hp} (s : Same H H') {p : Addr} (np : H' p = none) : ¬ dom H p := fun h => dom_same s h np
/-! written values -/
def tLw (K : PySem.W.Frag) (d : PyData) : TE := fun _ H Q => ∃ X : Addr → Prop, (∀ a, X a → dom H a) ∧ ∀ H' v, Same H H' → Dw K X H' v d → Q v H'
def tLws (K : PySem.W.Frag) (ds : List PyData) : TA := fun _ H Q => ∃ X : Addr → Prop, (∀ a, X a → dom H a) ∧ ∀ H' vs, Same H H' → DwAll K X H' vs ds → Q vs H'
section
variable {X : Cx} {e : Expr} {es : List Expr} {pos p1 p2 : Pos} {d : PyData} {ds : List PyData}
theorem lw_c {v : V} (h : PE X e (tC v)) (hd : ∀ Y H, Dw X.K Y H v d) : PE X e (tLw X.K d) := pe_mono h fun σ H Q ⟨Y, _, q⟩ => q H v (Same.refl H) (hd Y H)
theorem lw_int {n : Int} (h : PE X e (tC (.int n))) : PE X e (tLw X.K (.int n)) := lw_c h fun _ _ => .int n
theorem lw_bl {b : Bool} (h : PE X e (tC (.bl b))) : PE X e (tLw X.K (.bool b)) := lw_c h fun _ _ => .bl b
theorem lw_str {x : Str} (h : PE X e (tC (.str x))) : PE X e (tLw X.K (.str x)) := lw_c h fun _ _ => .str x
theorem lw_non (h : PE X e (tC .non)) : PE X e (tLw X.K .none) := lw_c h fun _ _ => .non
theorem lw_neg {n : Int} (h : PE X e (tUn (rU fun i => .int (-i)) (tC (.int n)))) : PE X e (tLw X.K (.int (-n))) :=
  pe_mono h fun σ H Q ⟨Y, _, q⟩ => ⟨n, rfl, q H _ (Same.refl H) (.int _)⟩
theorem lw_pow {a b : Int} (h : PE X e (tOp (rI CPow fun i j => .int (i ^ j.toNat)) (tC (.int a)) (tC (.int b)))) (hc : CPow a b) : PE X e (tLw X.K (.int (a ^ b.toNat))) :=
  pe_mono h fun σ H Q ⟨Y, _, q⟩ => ⟨a, b, rfl, rfl, hc, q H _ (Same.refl H) (.int _)⟩
theorem lw_add {e1 e2 : Expr} {a b : Int} (h1 : PE X e1 (tLw X.K (.int a))) (h2 : PE X e2 (tLw X.K (.int b))) : PE X (.BinOp e1 .Add e2 pos) (tLw X.K (.int (a + b))) :=
  pe_mono (pe_op op_add h1 h2) fun σ H Q ⟨Y, oc, q⟩ => ⟨Y, oc, fun H1 v1 s1 d1 => ⟨Y, fun a h => dom_same s1 (oc a h), fun H2 v2 s2 d2 => by
    cases d1; cases d2
    exact ⟨a, b, rfl, rfl, q H2 _ (s1.trans s2) (.int _)⟩⟩⟩
theorem lws_nil : PA X [] (tLws X.K []) := pa_mono pa_nil fun σ H Q ⟨Y, _, q⟩ => q H [] (Same.refl H) .nil
theorem lws_cons (h : PE X e (tLw X.K d)) (hs : PA X es (tLws X.K ds)) (hq : starEach (e :: es) X.env = (false, eval e X.env) :: starEach es X.env := by rfl) : PA X (e :: es) (tLws X.K (d :: ds)) :=
  pa_mono (pa_cons h hs hq) fun σ H Q ⟨Y, oc, q⟩ => ⟨Y, oc, fun H1 v s1 d1 => ⟨Y, fun a h => dom_same s1 (oc a h), fun H2 vs s2 d2 => q H2 _ (s1.trans s2) (.cons (d1.lx (.of s2)) d2)⟩⟩
theorem lw_tup {k : Nat} (h : PA X es (tLws X.K ds)) (hl : ds.length ≤ 1000000) : PE X (.Tuple es k pos) (tLw X.K (.tuple ds)) :=
  pe_mono (pe_tup h) fun σ H Q ⟨Y, oc, q⟩ => ⟨Y, oc, fun H1 vs s1 d1 => ⟨by rw [DwAll.len d1]; exact small6 hl, fun p np => q _ _ (s1.trans (sameNew np)) (.tup (SqT.of upd_same) (d1.lx (.of (sameNew np))))⟩⟩
theorem lw_lst (h : PA X es (tLws X.K ds)) (hl : ds.length ≤ 1000000) : PE X (.List es pos) (tLw X.K (.list ds)) :=
  pe_mono (pe_lstS h) fun σ H Q ⟨Y, oc, q⟩ => ⟨Y, oc, fun H1 vs s1 d1 => ⟨by rw [DwAll.len d1]; exact small6 hl, fun p np ns => q _ _ (s1.trans (sameNew np)) (.lst upd_same (fun h => dom_new s1 np (oc _ h)) ns (d1.lx (.of (sameNew np))))⟩⟩
theorem lw_dict : PE X (.Dict [] [] pos) (tLw X.K (.dict [])) :=
  pe_mono pe_dnewK fun σ H Q ⟨Y, oc, q⟩ => fun p np => q _ _ (sameNew np) (.dct (kvs := []) upd_same)
theorem lw_a1 (h : PE X e (tDisp [(tC (.str "a"), tC (.int 1))])) : PE X e (tLw X.K (.dict [(.str "a", .int 1)])) :=
  pe_mono h fun σ H Q ⟨Y, oc, q⟩ => fun p np => ⟨upd_same, [(.inr "a", .int 1)], rfl, by decide, by
    rw [upd_upd]
    exact q _ _ (sameNew np) (.dct (kvs := [(.inr "a", 1)]) (by rw [upd_same]; rfl))⟩
end
end Pv

namespace Pv
open PySem PySem.Spec PyProof.Rows L2
def topS (i : Nat) : Stmt := PySem.Challenge.pw_postvote_k28_vectors_judged.main.body.getD i (.Pass ⟨0, 0, 0, 0⟩)
abbrev sSt : Stmt := topS 18
theorem scSt : FnScope ["_law_script", "_law_greats", "_law_whole", "_law_cell"] ["_law_script"] (defScope sSt) := ⟨rfl, rfl, rfl, by decide +kernel, rfl, by decide +kernel, by decide +kernel⟩
abbrev sDr : Stmt := topS 19
theorem scDr : FnScope ["_law_deck", "_law_many", "_law_rest", "_law_mixed"] ["_law_deck", "_law_many"] (defScope sDr) := ⟨rfl, rfl, rfl, by decide +kernel, rfl, by decide +kernel, by decide +kernel⟩
theorem lay_ints : ∀ ns : List Int, PyData.canLayAll0 (ns.map PyData.int) = true
  | [] => by simp [PyData.canLayAll0]
  | n :: ns => by simp [PyData.canLayAll0, PyData.canLay0, lay_ints ns]
theorem dep_ints : ∀ ns : List Int, PyData.depthAll (ns.map PyData.int) = 0
  | [] => by simp [PyData.depthAll]
  | n :: ns => by simp [PyData.depthAll, PyData.depth, dep_ints ns]
theorem shaped_ints (ns : List Int) : SeqAt.shaped (.list (ns.map PyData.int)) = true := by
  show (PyData.canLay0 (.list (ns.map PyData.int)) && decide (PyData.depth (.list (ns.map PyData.int)) ≤ 64)) = true
  rw [Bool.and_eq_true]
  refine ⟨by simp only [PyData.canLay0]; exact lay_ints ns, decide_eq_true ?_⟩
  simp only [PyData.depth, dep_ints]; omega
theorem eqv_empty (ds : List PyData) : PyData.eqv (.list ds) (.list []) = ds.isEmpty := by
  cases ds <;> simp [PyData.eqv, PyData.eqvAll]
section
variable {P : Program} {w : World} {K : PySem.W.Frag} {mg : Str → Option Value} {base : Heap}
def spStart (K : PySem.W.Frag) : Sp := fun vs H Q _ => ∃ (a : Addr) (ns : List Int), vs = [.ref a] ∧ SqL K H a (ns.map V.int) ∧ ns.length ≤ 63 ∧
  ∀ H' st g, Same H H' → DV H' st g 0 → Q (.ref st) H'
set_option maxHeartbeats 2000000 in
theorem ok_St {f : Addr} {fd : FuncData} (F : Fun K "_law_begin" "_law_begin" sSt f fd)
    (m_abs : mg "abs" = none) (m_len : mg "len" = none) (m_int : mg "int" = none) :
    FnOk P w K mg base CX0 1 f fd ["_law_script"] (spStart K) := by
  refine F.ok scSt (fun vs H Q E h => ?_) (fun cdv A outer s H vs Q E hr h => ?_)
  · obtain ⟨a, ns, rfl, _⟩ := h; rfl
  · obtain ⟨a, ns, rfl, hS, hn, q⟩ := h
    refine ⟨_, pss_cons (ps_setLc (i := 1) (own := [("_law_cell", 3)]) (g := gName 3) (tt := tTest (tOp (rI0 fun i j => .bl (decide (j ≤ i))) (tCB (fun xs H Q => ∃ i, xs = [.int i] ∧ Q (.int (if i < 0 then -i else i)) H) (tCons (tVar 3) tNil)) (tOp (rI CPow fun i j => .int (i ^ j.toNat)) (tC (.int 10)) (tC (.int 18))))) (te := tCB (fun xs H Q => ∃ i, xs = [.int i] ∧ Q (.int (if i < 0 then -i else i)) H) (tCons (tVar 3) tNil)) rfl scSt.nd rfl rfl (sw_true rfl rfl rfl (by decide +kernel)) (pi_list (pv 0)) (blkOk_by (N := ["_law_script", "_law_greats", "_law_whole", "_law_cell"]) (sc := defScope sSt) (by decide +kernel)) (fun _ _ _ _ _ => pg_name (i := 3) scSt.nd rfl (.inl rfl)) (fun _ _ _ _ _ => pts_one (pt_cmpR op_ge (pe_callB call_abs (by rfl) m_abs (by decide +kernel) (pa_cons (pv 3) pa_nil)) (pe_op op_pow (pe_int) (pe_int)) (nomark _))) (fun _ _ _ _ _ => pe_callB call_abs (by rfl) m_abs (by decide +kernel) (pa_cons (pv 3) pa_nil)))
      (pss_cons (ps_set (i := 2) scSt.nd rfl (.inl rfl) (pe_op op_add (pe_int) (pe_callB call_lenQ (by rfl) m_len PySem.boot_len (pa_cons (pv 0) pa_nil))))
      (pss_cons (ps_for PassesOwn.never rfl (pi_list (pv 0)) (pg_name (i := 3) scSt.nd rfl (.inl rfl))
        (pss_one (ps_set (i := 2) scSt.nd rfl (.inl rfl) (pe_op op_mod (pe_op op_add (pe_op op_add (pe_op op_mul (pv 2) (pe_int)) (pe_op op_mul (pe_int) (pe_callB call_abs (by rfl) m_abs (by decide +kernel) (pa_cons (pv 3) pa_nil)))) (pe_callTy call_int1 (by rfl) m_int (by decide +kernel) (pa_cons (pe_cmpR op_lt (pv 3) (pe_int) (nomark _)) pa_nil))) (pe_int)))))
      (pss_one (ps_ret (pe_lst (pa_cons (pe_revL (pv 1)) (pa_cons (pv 2) (pa_cons (pe_int) pa_nil)))))))), ?_⟩
    refine ⟨.ref a, rfl, a, rfl, ⟨_, hS⟩, fun D nD => lc_it (walk_list (K := K) (a := a) (xs := ns.map V.int))
      (fun j H2 => Same H H2 ∧ ∃ ks : List Int, H2 D = some (.lst (ks.map V.int)) ∧ ks.length ≤ j) ⟨sameNew nD, [], upd_same, Nat.le_refl _⟩ (fun j H2 _ h => h.1.seq hS) ?_ ?_⟩
    · rintro j v H2 H3 hlt ⟨s2, ks, e2, l2⟩ ⟨rfl, hv⟩
      have hv' : (ns.map V.int)[j]? = some v := hv
      rw [List.getElem?_map] at hv'
      obtain ⟨z, hz, rfl⟩ := Option.map_eq_some_iff.mp hv'
      rw [List.length_map] at hlt
      refine ⟨rfl, .int z, rfl, z, rfl, _, _, rfl, rfl, ⟨by decide, by decide, by decide⟩, _, _, rfl, rfl, _, rfl, ite2 (fun h1 => ?_) (fun h1 => ?_)⟩
      · refine ⟨.int z, rfl, z, rfl, _, e2, ?_, samePut s2 nD, ks ++ [if z < 0 then -z else z], ?_, by simp; omega⟩
        · rw [List.length_map]; exact small (by omega)
        · rw [upd_same, List.map_append]; rfl
      · exact ⟨s2, ks, e2, by omega⟩
    rintro H2 ⟨s2, ks, e2, l2⟩
    rw [List.length_map] at l2
    refine ⟨.ref a, rfl, a, _, rfl, .inl (s2.seq hS), _, _, rfl, rfl, ?_⟩
    rw [List.length_map]
    refine ⟨.ref a, rfl, a, rfl, ⟨_, s2.seq hS⟩, for_it (walk_list (K := K) (a := a) (xs := ns.map V.int))
      (fun j σ H3 => ∃ (wh : Int) (y3 : Option V), σ = [some (.ref a), some (.ref D), some (.int wh), y3] ∧ 0 ≤ wh ∧ wh < 2305843009213693951 ∧ Same H2 H3)
      ⟨_, _, rfl, by omega, by omega, Same.refl _⟩ (fun j σ H3 _ h => by obtain ⟨_, _, _, _, _, s3⟩ := h; exact (s2.trans s3).seq hS) ?_ ?_⟩
    · rintro j v σ H3 H4 hlt ⟨wh, y3, rfl, w0, w1, s3⟩ ⟨rfl, hv⟩
      have hv' : (ns.map V.int)[j]? = some v := hv
      rw [List.getElem?_map] at hv'
      obtain ⟨z, hz, rfl⟩ := Option.map_eq_some_iff.mp hv'
      refine ⟨.int wh, rfl, _, _, rfl, rfl, .inr ⟨by decide, by decide⟩, .int z, rfl, z, rfl, _, _, rfl, rfl, .inl ⟨by decide, by decide⟩, _, _, rfl, rfl, .int z, rfl, _, _, rfl, rfl, .inr ⟨_, rfl, _, _, rfl, rfl, _, _, rfl, rfl, (by show (0 : Int) < 2305843009213693951; decide), ?_⟩⟩
      exact ⟨_, _, rfl, Int.emod_nonneg _ (by decide), Int.emod_lt_of_pos _ (by decide), s3⟩
    rintro σ H3 ⟨wh, y3, rfl, w0, w1, s3⟩
    refine ⟨.ref D, rfl, D, _, rfl, SqL.of (s3 _ _ e2), fun g ng => ⟨.int wh, rfl, (show (3 : Nat) ≤ sizeLine by decide), fun st nst => ?_⟩⟩
    have s4 := (sameNew (o := .lst (ks.map V.int).reverse) ng).trans (sameNew (o := .lst [.ref g, .int wh, .int 0]) nst)
    refine q _ st g ((s2.trans s3).trans s4) ⟨⟨wh, 0, ks.reverse, upd_same, upNew nst (by rw [upd_same, List.map_reverse]), w0, w1, Nat.le_refl _, by rw [List.length_reverse]; omega⟩, (ne_of_none upd_same nst).symm⟩
def spDraw : Sp := fun vs H Q _ => ∃ (st g : Addr) (t : Nat) (m : Int), vs = [.ref st, .int m] ∧ DV H st g t ∧ t < 1000000 ∧ 0 < m ∧ m ≤ 2 ^ 60 ∧
  ∀ (H' : Hp) (d : Int), 0 ≤ d → d < m → DV H' st g (t + 1) → Ext st g H H' → Q (.int d) H'
set_option maxHeartbeats 2000000 in
theorem ok_Dr {f : Addr} {fd : FuncData} (F : Fun K "_law_next" "_law_next" sDr f fd)
     :
    FnOk P w K mg base CX0 1 f fd ["_law_deck", "_law_many"] spDraw := by
  refine F.ok scDr (fun vs H Q E h => ?_) (fun cdv A outer s H vs Q E hr h => ?_)
  · obtain ⟨st, g, t, m, rfl, _⟩ := h; rfl
  · obtain ⟨st, g, t, m, rfl, hd, ht, hm, hm2, q⟩ := h
    have hu64 : (A.deeper (envOfC "_law_next" (defScope sDr) s.heap.objs.size f cdv)).units + 64 < cLine := by have := hr.un; omega
    refine ⟨_, pss_cons (ps_while PassesOwn.never (pt_cmpR (op_neD hu64) (pe_ix ix_list (pv 0) (pe_int) (fun _ _ => rfl)) (pe_lst (pa_nil)) (nomark _))
        (pss_cons (ps_set (i := 2) scDr.nd rfl (.inl rfl) (pe_bm0 PySem.F.plainAttrs_list PySem.F.slot_list_pop PySem.F.type_list_pop mt_pop (pe_ix ix_list (pv 0) (pe_int) (fun _ _ => rfl))))
        (pss_one (ps_if (pt_cmpR op_gt (pv 2) (pe_int) (nomark _))
          (pss_cons (ps_expr (pe_bm PySem.F.plainAttrs_list PySem.F.slot_list_append PySem.F.type_list_append mt_append (pe_ix ix_list (pv 0) (pe_int) (fun _ _ => rfl)) (pa_cons (pe_op op_fdivW (pv 2) (pv 1)) pa_nil)))
          (pss_one (ps_ret (pe_op op_mod (pv 2) (pv 1))))) pss_nil))))
      (pss_cons (ps_asg (pe_op op_add (pe_ix ix_list (pv 0) (pe_int) (fun _ _ => rfl)) (pe_int)) (pg_sub (pv 0) (pe_int) set_list))
      (pss_cons (ps_set (i := 3) scDr.nd rfl (.inl rfl) (pe_op op_add (pe_op op_mul (pe_ix ix_list (pv 0) (pe_int) (fun _ _ => rfl)) (pe_op op_add (pe_int) (pe_op op_mul (pe_int) (pe_ix ix_list (pv 0) (pe_int) (fun _ _ => rfl))))) (pe_op op_mul (pe_int) (pe_ix ix_list (pv 0) (pe_int) (fun _ _ => rfl)))))
      (pss_cons (ps_set (i := 3) scDr.nd rfl (.inl rfl) (pe_op op_mod (pv 3) (pe_int)))
      (pss_cons (ps_set (i := 3) scDr.nd rfl (.inl rfl) (pe_op op_mod (pe_op op_mul (pv 3) (pv 3)) (pe_int)))
      (pss_one (ps_ret (pe_op op_mod (pe_op op_fdiv (pe_op op_mod (pe_op op_mul (pv 3) (pv 3)) (pe_int)) (pe_int)) (pv 1)))))))), ?_⟩
    obtain ⟨wh, k, gr, hs, hg, w0, w1, hk, hl⟩ := hd.ex
    have nsg := hd.n1
    refine ⟨fun n σ H2 => ∃ (y2 : Option V) (gr2 : List Int), σ = [some (.ref st), some (.int m), y2, none] ∧ gr2.length = n ∧ H2 st = some (.lst [.ref g, .int wh, .int k]) ∧ H2 g = some (.lst (gr2.map V.int)) ∧ gr2.length ≤ 63 ∧ Ext st g H H2,
      ⟨gr.length, none, gr, rfl, rfl, hs, hg, hl, fun b o h _ _ => h⟩, ?_⟩
    rintro n σ H2 ⟨y2, gr2, rfl, rfl, hs2, hg2, hl2, x2⟩
    refine ⟨.ref st, rfl, st, _, 0, .ref g, rfl, rfl, SqL.of hs2, atI_nat (j := 0) rfl, Nat.zero_le _, fun p np => ⟨.list (gr2.map PyData.int), .list [], .lst (SqL.of (upNew np hg2)) (dp_ints gr2), .lst (SqL.of upd_same) .nil, shaped_ints gr2, by decide, _, rfl, ?_⟩⟩
    rw [eqv_empty]
    have hs3 := upNew np (o := .lst []) hs2
    have hg3 := upNew np (o := .lst []) hg2
    have x3 : Ext st g H (upd H2 p (.lst [])) := x2.trans (Ext.of (sameNew np))
    generalize upd H2 p (.lst []) = H3 at hs3 hg3 x3
    cases gr2 with
    | nil =>
      refine ⟨.ref st, rfl, st, _, 2, .int k, rfl, rfl, SqL.of hs3, atI_nat (j := 2) rfl, _, _, rfl, rfl, .ref st, rfl, st, _, 2, 2, rfl, rfl, hs3, rfl, ?_⟩
      have e4 : (upd H3 st (.lst [.ref g, .int wh, .int ((k : Int) + 1)])) st = some (.lst [.ref g, .int wh, .int ((k : Int) + 1)]) := upd_same
      have x4 : Ext st g H (upd H3 st (.lst [.ref g, .int wh, .int ((k : Int) + 1)])) := fun b o h n1 n2 => by rw [upd_ne n1]; exact x3 b o h n1 n2
      have d4 : DV (upd H3 st (.lst [.ref g, .int wh, .int ((k : Int) + 1)])) st g (t + 1) := ⟨⟨wh, k + 1, [], by rw [e4]; rfl, by rw [upd_ne nsg.symm]; exact hg3, w0, w1, by omega, by simp⟩, nsg⟩
      have r4 := SqL.of (K := K) e4
      refine ⟨.ref st, rfl, st, _, 1, .int wh, rfl, rfl, r4, atI_nat (j := 1) rfl, .ref st, rfl, st, _, 2, .int ((k : Int) + 1), rfl, rfl, r4, atI_nat (j := 2) rfl, _, _, rfl, rfl, .inl ⟨by decide, by decide⟩, _, _, rfl, rfl, _, _, rfl, rfl, .inl ⟨by omega, by omega⟩, .ref st, rfl, st, _, 2, .int ((k : Int) + 1), rfl, rfl, r4, atI_nat (j := 2) rfl, _, _, rfl, rfl, .inl ⟨by decide, by decide⟩, _, _, rfl, rfl, ?_⟩
      refine ⟨_, rfl, _, _, rfl, rfl, (by show (0 : Int) < 2305843009213693951; decide), ?_⟩
      dsimp only
      generalize hu : (wh * (48271 + 69621 * ((k : Int) + 1)) + 40692 * ((k : Int) + 1)) % 2305843009213693951 = u
      have hu1 : 0 ≤ u := by rw [← hu]; exact Int.emod_nonneg _ (by decide)
      have hu2 : u < 2305843009213693951 := by rw [← hu]; exact Int.emod_lt_of_pos _ (by decide)
      refine ⟨.int u, rfl, .int u, rfl, _, _, rfl, rfl, .inl ⟨by omega, by omega⟩, _, _, rfl, rfl, (by show (0 : Int) < 2305843009213693951; decide), ?_⟩
      dsimp only
      generalize hv : u * u % 2305843009213693951 = v
      have hv1 : 0 ≤ v := by rw [← hv]; exact Int.emod_nonneg _ (by decide)
      have hv2 : v < 2305843009213693951 := by rw [← hv]; exact Int.emod_lt_of_pos _ (by decide)
      refine ⟨.int v, rfl, .int v, rfl, _, _, rfl, rfl, .inl ⟨by omega, by omega⟩, _, _, rfl, rfl, (by show (0 : Int) < 4611686018427387847; decide), _, _, rfl, rfl, ⟨by decide, by decide⟩, .int m, rfl, _, _, rfl, rfl, hm, ?_⟩
      exact q _ _ (Int.emod_nonneg _ (by omega)) (Int.emod_lt_of_pos _ hm) d4 x4
    | cons b0 ls =>
      have hne : (b0 :: ls) ≠ [] := by simp
      refine ⟨fun σ' H' => ∃ (y2 : Option V) (gr3 : List Int), σ' = [some (.ref st), some (.int m), y2, none] ∧ gr3.length = ls.length ∧ H' st = some (.lst [.ref g, .int wh, .int k]) ∧ H' g = some (.lst (gr3.map V.int)) ∧ gr3.length ≤ 63 ∧ Ext st g H H', ?_, ?_⟩
      · rintro σ' H' ⟨y2, gr3, e1, e2, r3⟩
        exact ⟨ls.length, by simp, y2, gr3, e1, e2, r3⟩
      obtain ⟨z, hz⟩ : ∃ z, (b0 :: ls)[(b0 :: ls).length - 1]? = some z := ⟨_, List.getElem?_eq_getElem (by simp)⟩
      have hzv : ((b0 :: ls).map V.int)[((b0 :: ls).map V.int).length - 1]? = some (.int z) := by rw [List.length_map, List.getElem?_map, hz]; rfl
      have hdl : ((b0 :: ls).map V.int).dropLast = ((b0 :: ls).dropLast).map V.int := by rw [List.map_dropLast]
      refine ⟨.ref st, rfl, st, _, 0, .ref g, rfl, rfl, SqL.of hs3, atI_nat (j := 0) rfl, .inl ⟨rfl, _, SqL.of hg3⟩, g, _, .int z, rfl, rfl, hg3, hzv, ?_⟩
      rw [hdl]
      have ldl : ((b0 :: ls).dropLast).length = ls.length := by simp
      have hs4 : (upd H3 g (.lst (((b0 :: ls).dropLast).map V.int))) st = some (.lst [.ref g, .int wh, .int k]) := by rw [upd_ne nsg]; exact hs3
      have hg4 : (upd H3 g (.lst (((b0 :: ls).dropLast).map V.int))) g = some (.lst (((b0 :: ls).dropLast).map V.int)) := upd_same
      have x4 : Ext st g H (upd H3 g (.lst (((b0 :: ls).dropLast).map V.int))) := fun b o h n1 n2 => by rw [upd_ne n2]; exact x3 b o h n1 n2
      generalize upd H3 g (.lst (((b0 :: ls).dropLast).map V.int)) = H4 at hs4 hg4 x4
      refine ⟨.int z, rfl, _, _, rfl, rfl, _, rfl, ite2 (fun h1 => ?_) (fun h1 => ?_)⟩
      · refine ⟨.ref st, rfl, st, _, 0, .ref g, rfl, rfl, SqL.of hs4, atI_nat (j := 0) rfl, .inl ⟨rfl, _, SqL.of hg4⟩, .int z, rfl, .int m, rfl, _, _, rfl, rfl, wide_div (b := 61) hm (by omega) (by decide) (by decide), g, _, _, rfl, rfl, hg4, ?_, ?_⟩
        · rw [List.length_map, ldl]; simp at hl2; exact small (by omega)
        refine ⟨.int z, rfl, .int m, rfl, _, _, rfl, rfl, hm, ?_⟩
        refine q _ _ (Int.emod_nonneg _ (by omega)) (Int.emod_lt_of_pos _ hm) ⟨⟨wh, k, (b0 :: ls).dropLast ++ [z / m], by rw [upd_ne nsg]; exact hs4, ?_, w0, w1, by omega, ?_⟩, nsg⟩ (fun b o h n1 n2 => by rw [upd_ne n2]; exact x4 b o h n1 n2)
        · rw [upd_same, List.map_append]; rfl
        · rw [List.length_append, ldl]; simp at hl2 ⊢; omega
      · exact ⟨_, (b0 :: ls).dropLast, rfl, ldl, hs4, hg4, by rw [ldl]; simp at hl2; omega, x4⟩
end
end Pv

namespace Pv
open PySem PySem.Spec PyProof.Rows L2
abbrev sAm : Stmt := topS 21
theorem scAm : FnScope ["_law_deck", "_law_top"] ["_law_deck", "_law_top"] (defScope sAm) := ⟨rfl, rfl, rfl, by decide +kernel, rfl, by decide +kernel, by decide +kernel⟩
abbrev sIn : Stmt := topS 22
theorem scIn : FnScope ["_law_deck", "_law_most_posts", "_law_most_groups", "_law_top", "_law_many", "_law_capacities", "_law_groups", "_law_post", "_law_turn", "_law_rest", "_law_order", "_law_favorite", "_law_size"] ["_law_deck", "_law_most_posts", "_law_most_groups", "_law_top"] (defScope sIn) := ⟨rfl, rfl, rfl, by decide +kernel, rfl, by decide +kernel, by decide +kernel⟩
theorem seq_with {t u : TS} {D : Ends} {σ : L2.St} {H : Hp} (Pre : L2.St → Hp → Prop) (rest : ∀ σ1 H1, Pre σ1 H1 → u D σ1 H1) (main : (∀ σ1 H1, Pre σ1 H1 → u D σ1 H1) → tSeq t u D σ H) : tSeq t u D σ H := main rest
theorem perm_erase : ∀ (l : List Int) (k : Nat) (h : k < l.length), (l[k] :: l.eraseIdx k).Perm l
  | [], _, h => by simp at h
  | a :: l, 0, _ => by simp
  | a :: l, k + 1, h => by
    have ih := perm_erase l k (by simpa using h)
    simp only [List.getElem_cons_succ, List.eraseIdx_cons_succ]
    exact (List.Perm.swap _ _ _).trans (List.Perm.cons _ ih)
theorem nodup_step {ms l : List Int} {k : Nat} (h : k < l.length) (hn : (ms ++ l).Nodup) : ((ms ++ [l[k]]) ++ l.eraseIdx k).Nodup := by
  rw [List.append_assoc]
  exact (List.Perm.append_left ms (perm_erase l k h)).symm.nodup hn
theorem upTo_nodup (n : Nat) : (upTo n).Nodup := by
  unfold upTo
  show List.Pairwise _ _
  rw [List.pairwise_map]
  exact List.Pairwise.imp (fun h hab => h (Int.ofNat.inj hab)) (List.nodup_range (n := n))
section
variable {P : Program} {w : World} {K : PySem.W.Frag} {mg : Str → Option Value} {base : Heap}
def spAm : Sp := fun vs H Q _ => ∃ (st g : Addr) (t : Nat) (top : Int), vs = [.ref st, .int top] ∧ DV H st g t ∧ t + 10 ≤ 1000000 ∧ 1 ≤ top ∧ top ≤ 10 ^ 12 ∧
  ∀ (H' : Hp) (d : Int) (t' : Nat), 1 ≤ d → d ≤ top → DV H' st g t' → t' ≤ t + 3 → Ext st g H H' → Q (.int d) H'
theorem ok_Am {f fDr : Addr} {fd fdDr : FuncData} (F : Fun K "_law_amount" "_law_amount" sAm f fd)
    (FDr : Fun K "_law_next" "_law_next" sDr fDr fdDr) (bDr : Binds K fdDr ["_law_deck", "_law_many"] []) (gDr : mg "_law_next" = some (.ref fDr)) (GDr : FnOk P w K mg base CX0 1 fDr fdDr ["_law_deck", "_law_many"] spDraw)
    (m_min : mg "min" = none) :
    FnOk P w K mg base CX0 2 f fd ["_law_deck", "_law_top"] spAm := by
  refine F.ok scAm (fun vs H Q E h => ?_) (fun cdv A outer s H vs Q E hr h => ?_)
  · obtain ⟨st, g, t, top, rfl, _⟩ := h; rfl
  · obtain ⟨st, g, t, top, rfl, hd, ht, ht1, ht2, q⟩ := h
    refine ⟨_, pss_one (ps_ret (pe_ix ix_list (pe_lst (pa_cons (pe_int) (pa_cons (pe_op op_add (pe_int) (pe_call GDr (hr.mono (by omega)) (by rfl) gDr FDr.kp bDr .nil pass0 (pa_cons (pv 0) (pa_cons (pe_callB (call_min2 rfl) (by rfl) m_min (by decide +kernel) (pa_cons (pv 1) (pa_cons (pe_int) pa_nil))) pa_nil)))) (pa_cons (pe_op op_add (pe_int) (pe_call GDr (hr.mono (by omega)) (by rfl) gDr FDr.kp bDr .nil pass0 (pa_cons (pv 0) (pa_cons (pv 1) pa_nil)))) (pa_cons (pv 1) pa_nil))))) (pe_call GDr (hr.mono (by omega)) (by rfl) gDr FDr.kp bDr .nil pass0 (pa_cons (pv 0) (pa_cons (pe_int) pa_nil))) (fun _ _ => rfl))), ?_⟩
    refine ⟨.ref st, rfl, .int top, rfl, _, _, rfl, st, g, t, _, rfl, hd, by omega, by split <;> omega, by split <;> omega, fun H1 d1 h10 h11 D1 X1 => ⟨_, _, rfl, rfl, ?_⟩⟩
    refine ⟨.ref st, rfl, .int top, rfl, st, g, t + 1, _, rfl, D1, by omega, by omega, by omega, fun H2 d2 h20 h21 D2 X2 => ⟨_, _, rfl, rfl, .int top, rfl, (show (4 : Nat) ≤ sizeLine by decide), fun Z nZ => ?_⟩⟩
    obtain ⟨o1, o2⟩ := D2.off nZ
    refine ⟨.ref st, rfl, st, g, t + 1 + 1, _, rfl, D2.new nZ, by omega, by decide, by decide, fun H3 d3 h30 h31 D3 X3 => ?_⟩
    have eZ := X3 _ _ upd_same o1 o2
    have hm1 : 1 + d1 ≤ top := by split at h11 <;> omega
    obtain ⟨z, hz, hz1, hz2⟩ : ∃ z : Int, atI [V.int 1, V.int (1 + d1), V.int (1 + d2), V.int top] d3 = some (.int z) ∧ 1 ≤ z ∧ z ≤ top := by
      obtain h | h | h | h : d3 = 0 ∨ d3 = 1 ∨ d3 = 2 ∨ d3 = 3 := by omega
      · exact ⟨1, by rw [h]; rfl, by omega, by omega⟩
      · exact ⟨1 + d1, by rw [h]; rfl, by omega, hm1⟩
      · exact ⟨1 + d2, by rw [h]; rfl, by omega, by omega⟩
      · exact ⟨top, by rw [h]; rfl, by omega, by omega⟩
    exact ⟨Z, _, _, _, rfl, rfl, SqL.of eZ, hz, q _ _ _ hz1 hz2 D3 (by omega) (((X1.trans X2).trans (Ext.of (sameNew nZ))).trans X3)⟩
def spInst (K : PySem.W.Frag) : Sp := fun vs H Q _ => ∃ (st g : Addr) (t : Nat) (pm gm top : Int), vs = [.ref st, .int pm, .int gm, .int top] ∧ DV H st g t ∧ t + 500 ≤ 1000000 ∧ 1 ≤ pm ∧ pm ≤ 6 ∧ 1 ≤ gm ∧ gm ≤ 10 ∧ 1 ≤ top ∧ top ≤ 3 * 10 ^ 11 ∧
  ∀ (H' : Hp) (p : Addr) (t' : Nat) (cs : List Int) (gs : List Gp), DV H' st g t' → t' ≤ t + 300 → Ext st g H H' → Dp K H' (.ref p) (dInst cs gs) → InsOk cs gs → (∀ g ∈ gs, g.1.Nodup) → (cs.length : Int) ≤ pm → (∀ x ∈ cs, x ≤ 3 * top) → (gs.length : Int) ≤ gm → (∀ g ∈ gs, g.2 ≤ top) → Q (.ref p) H'
set_option maxHeartbeats 8000000 in
theorem ok_In {f fDr fAm : Addr} {fd fdDr fdAm : FuncData} (F : Fun K "_law_instance" "_law_instance" sIn f fd)
    (FDr : Fun K "_law_next" "_law_next" sDr fDr fdDr) (bDr : Binds K fdDr ["_law_deck", "_law_many"] []) (gDr : mg "_law_next" = some (.ref fDr)) (GDr : FnOk P w K mg base CX0 1 fDr fdDr ["_law_deck", "_law_many"] spDraw)
    (FAm : Fun K "_law_amount" "_law_amount" sAm fAm fdAm) (bAm : Binds K fdAm ["_law_deck", "_law_top"] []) (gAm : mg "_law_amount" = some (.ref fAm)) (GAm : FnOk P w K mg base CX0 2 fAm fdAm ["_law_deck", "_law_top"] spAm)
    (m_range : mg "range" = none) (m_list : mg "list" = none) (m_len : mg "len" = none) (m_min : mg "min" = none) (m_tuple : mg "tuple" = none) :
    FnOk P w K mg base CX0 3 f fd ["_law_deck", "_law_most_posts", "_law_most_groups", "_law_top"] (spInst K) := by
  refine F.ok scIn (fun vs H Q E h => ?_) (fun cdv A outer s H vs Q E hr h => ?_)
  · obtain ⟨st, g, t, pm, gm, top, rfl, _⟩ := h; rfl
  · obtain ⟨st, g, t, pm, gm, top, rfl, hd, ht, hp1, hp6, hg1, hg9, ht1, ht2, q⟩ := h
    refine ⟨_, pss_cons (ps_set (i := 4) scIn.nd rfl (.inl rfl) (pe_op op_add (pe_int) (pe_call GDr (hr.mono (by omega)) (by rfl) gDr FDr.kp bDr .nil pass0 (pa_cons (pv 0) (pa_cons (pv 1) pa_nil)))))
      (pss_cons (ps_par (i := 5) (j := 6) rfl scIn.nd rfl rfl (by decide) rfl rfl (pa_cons (pe_lst (pa_nil)) (pa_cons (pe_lst (pa_nil)) pa_nil)) rfl)
      (pss_cons (ps_for PassesOwn.never rfl (pi_range1 (by rfl) m_range (pa_cons (pv 4) pa_nil)) (pg_name (i := 7) scIn.nd rfl (.inl rfl))
        (pss_one (ps_expr (pe_bm PySem.F.plainAttrs_list PySem.F.slot_list_append PySem.F.type_list_append mt_append (pv 5) (pa_cons (pe_call GAm (hr.mono (by omega)) (by rfl) gAm FAm.kp bAm .nil pass0 (pa_cons (pv 0) (pa_cons (pe_ix ix_list (pe_lst (pa_cons (pv 3) (pa_cons (pe_op op_mul (pe_int) (pv 3)) pa_nil))) (pe_call GDr (hr.mono (by omega)) (by rfl) gDr FDr.kp bDr .nil pass0 (pa_cons (pv 0) (pa_cons (pe_int) pa_nil))) (fun _ _ => rfl)) pa_nil))) pa_nil)))))
      (pss_cons (ps_for PassesOwn.never rfl (pi_range1 (by rfl) m_range (pa_cons (pe_op op_add (pe_int) (pe_call GDr (hr.mono (by omega)) (by rfl) gDr FDr.kp bDr .nil pass0 (pa_cons (pv 0) (pa_cons (pv 2) pa_nil)))) pa_nil)) (pg_name (i := 8) scIn.nd rfl (.inl rfl))
        (pss_cons (ps_set (i := 9) scIn.nd rfl (.inr rfl) (pe_listRg rfl (by rfl) m_list (prg_1 (by rfl) m_range (pv 4))))
        (pss_cons (ps_setLc (i := 10) (own := [("_law_post", 7)]) (g := gName 7) (tt := tYes) (te := tBM K "list" rPopAt (tVar 9) (tCons (tCall spDraw [] E0 (tCons (tVar 0) (tCons (tCB (rLenQ K) (tCons (tVar 9) tNil)) tNil))) tNil)) rfl scIn.nd rfl rfl (sw_true rfl rfl rfl (by decide +kernel)) (pi_range1 (by rfl) m_range (pa_cons (pv 4) pa_nil)) (blkOk_by (N := ["_law_deck", "_law_most_posts", "_law_most_groups", "_law_top", "_law_many", "_law_capacities", "_law_groups", "_law_post", "_law_turn", "_law_rest", "_law_order", "_law_favorite", "_law_size"]) (sc := defScope sIn) (by decide +kernel)) (fun _ _ _ _ _ => pg_name (i := 7) scIn.nd rfl (.inl rfl)) (fun _ _ _ _ _ => pts_nil) (fun _ _ _ _ _ => pe_bm PySem.F.plainAttrs_list PySem.F.slot_list_pop PySem.F.type_list_pop mt_popAt (pv 9) (pa_cons (pe_call GDr (hr.mono (by omega)) (by rfl) gDr FDr.kp bDr .nil pass0 (pa_cons (pv 0) (pa_cons (pe_callB call_lenQ (by rfl) m_len PySem.boot_len (pa_cons (pv 9) pa_nil)) pa_nil))) pa_nil)))
        (pss_cons (ps_set (i := 11) scIn.nd rfl (.inr rfl) (pe_call GDr (hr.mono (by omega)) (by rfl) gDr FDr.kp bDr .nil pass0 (pa_cons (pv 0) (pa_cons (pe_callB (call_min2 rfl) (by rfl) m_min (by decide +kernel) (pa_cons (pv 4) (pa_cons (pe_int) pa_nil))) pa_nil))))
        (pss_cons (ps_if (pt_cmpR op_gt (pe_call GDr (hr.mono (by omega)) (by rfl) gDr FDr.kp bDr .nil pass0 (pa_cons (pv 0) (pa_cons (pe_int) pa_nil))) (pe_int) (nomark _))
          (pss_one (ps_set (i := 10) scIn.nd rfl (.inl rfl) (pe_op op_cat (pe_lst (pa_cons (pv 11) pa_nil)) (pe_lc (own := [("_law_post", 7)]) (g := gName 7) (tt := tTest (tOp rNe (tVar 7) (tVar 11))) (te := tVar 7) rfl scIn.nd (pi_list (pv 10)) (blkOk_by (N := ["_law_deck", "_law_most_posts", "_law_most_groups", "_law_top", "_law_many", "_law_capacities", "_law_groups", "_law_post", "_law_turn", "_law_rest", "_law_order", "_law_favorite", "_law_size"]) (sc := defScope sIn) (by decide +kernel)) (fun _ _ _ _ _ => pg_name (i := 7) scIn.nd rfl (.inl rfl)) (fun _ _ _ _ _ => pts_one (pt_cmpR op_ne (pv 7) (pv 11) (nomark _))) (fun _ _ _ _ _ => pv 7))))) pss_nil)
        (pss_cons (ps_set (i := 12) scIn.nd rfl (.inl rfl) (pe_ix ix_list (pe_lst (pa_cons (pv 4) (pa_cons (pe_callB (call_min2 rfl) (by rfl) m_min (by decide +kernel) (pa_cons (pv 4) (pa_cons (pe_int) pa_nil))) (pa_cons (pe_call GDr (hr.mono (by omega)) (by rfl) gDr FDr.kp bDr .nil pass0 (pa_cons (pv 0) (pa_cons (pe_op op_add (pv 4) (pe_int)) pa_nil))) pa_nil)))) (pe_call GDr (hr.mono (by omega)) (by rfl) gDr FDr.kp bDr .nil pass0 (pa_cons (pv 0) (pa_cons (pe_int) pa_nil))) (fun _ _ => rfl)))
        (pss_one (ps_expr (pe_bm PySem.F.plainAttrs_list PySem.F.slot_list_append PySem.F.type_list_append mt_append (pv 6) (pa_cons (pe_tup (pa_cons (pe_callTy call_tupQ (by rfl) m_tuple (by decide +kernel) (pa_cons (pe_slice sl_list (pv 10) po_none (po_some (pv 12))) pa_nil)) (pa_cons (pe_call GAm (hr.mono (by omega)) (by rfl) gAm FAm.kp bAm .nil pass0 (pa_cons (pv 0) (pa_cons (pv 3) pa_nil))) pa_nil))) pa_nil))))))))))
      (pss_one (ps_ret (pe_tup (pa_cons (pe_callTy call_tupQ (by rfl) m_tuple (by decide +kernel) (pa_cons (pv 5) pa_nil)) (pa_cons (pe_callTy call_tupQ (by rfl) m_tuple (by decide +kernel) (pa_cons (pv 6) pa_nil)) pa_nil)))))))), ?_⟩
    refine ⟨.ref st, rfl, .int pm, rfl, st, g, t, _, rfl, hd, by omega, by omega, by omega, fun H1 d1 h10 h11 D1 X1 => ⟨_, _, rfl, rfl, ?_⟩⟩
    obtain ⟨n, hn⟩ : ∃ n : Nat, 1 + d1 = (n : Int) := ⟨(1 + d1).toNat, by omega⟩
    have hn6 : 1 ≤ n ∧ n ≤ 6 := by omega
    dsimp only
    rw [hn]
    refine ⟨Nat.zero_le _, fun Ca nCa => ⟨Nat.zero_le _, fun Rw nRw => ⟨_, _, rfl, ?_⟩⟩⟩
    have oCa := D1.off nCa
    have fCa := D1.nil X1 nCa
    have D1a := D1.new nCa (o := .lst [])
    have oRw := D1a.off nRw
    have fRw := D1a.nil (X1.trans (Ext.of (sameNew nCa))) nRw
    have D1b := D1a.new nRw (o := .lst [])
    have nCR : Ca ≠ Rw := ne_of_none upd_same nRw
    have x1b := (X1.trans (Ext.of (sameNew (o := .lst []) nCa))).trans (Ext.of (sameNew (o := .lst []) nRw))
    -- capacities
    refine ⟨.int n, rfl, n, rfl, by omega, by omega, for_it (walk_range (lo := 0) (n := (n : Int).toNat))
      (fun j σ H2 => ∃ (y7 : Option V) (t2 : Nat) (ls : List Int), σ = [some (.ref st), some (.int pm), some (.int gm), some (.int top), some (.int n), some (.ref Ca), some (.ref Rw), y7, none, none, none, none, none] ∧ DV H2 st g t2 ∧ t2 ≤ t + 1 + 4 * j ∧ Ext st g H H2 ∧ H2 Rw = some (.lst []) ∧ H2 Ca = some (.lst (ls.map V.int)) ∧ ls.length = j ∧ ∀ x ∈ ls, 1 ≤ x ∧ x ≤ 3 * top)
      ⟨none, t + 1, [], rfl, D1b, by omega, x1b, upd_same, upNew nRw upd_same, rfl, fun x h => by simp at h⟩ (fun _ _ _ _ _ => trivial) ?_ ?_⟩
    · rintro j v σ H2 H3 hltj ⟨y7, t2, ls, rfl, d2, ht2', x2, eR2, eC2, l2, b2⟩ ⟨rfl, rfl⟩
      have hj6 : j < 6 := by omega
      refine ⟨.ref Ca, rfl, .inl ⟨rfl, _, SqL.of eC2⟩, .ref st, rfl, .int top, rfl, .int top, rfl, _, _, rfl, rfl, .inl ⟨by decide, by decide⟩, (show (2 : Nat) ≤ sizeLine by decide), fun Z nZ => ⟨.ref st, rfl, st, g, t2, _, rfl, d2.new nZ, by omega, by decide, by decide, fun H4 d4 h40 h41 D4 X4 => ?_⟩⟩
      obtain ⟨oZ1, oZ2⟩ := d2.off nZ
      have eZ := X4 _ _ upd_same oZ1 oZ2
      have x4 := (x2.trans (Ext.of (sameNew nZ))).trans X4
      have eC4 := X4 _ _ (upNew nZ eC2) oCa.1 oCa.2
      have eR4 := X4 _ _ (upNew nZ eR2) oRw.1 oRw.2
      obtain ⟨tz, htz, htz1, htz2⟩ : ∃ tz : Int, atI [V.int top, V.int (3 * top)] d4 = some (.int tz) ∧ 1 ≤ tz ∧ tz ≤ 3 * top := by
        obtain h | h : d4 = 0 ∨ d4 = 1 := by omega
        · exact ⟨top, by rw [h]; rfl, by omega, by omega⟩
        · exact ⟨3 * top, by rw [h]; rfl, by omega, by omega⟩
      refine ⟨Z, _, _, _, rfl, rfl, SqL.of eZ, htz, st, g, t2 + 1, tz, rfl, D4, by omega, htz1, by omega, fun H5 am t5 ha1 ha2 D5 ht5 X5 => ?_⟩
      have eC5 := X5 _ _ eC4 oCa.1 oCa.2
      refine ⟨Ca, _, _, rfl, rfl, eC5, by rw [List.length_map]; exact small (by omega), _, t5, ls ++ [am], rfl, D5.put oCa.1 oCa.2, by omega, ?_, by rw [upd_ne nCR.symm]; exact X5 _ _ eR4 oRw.1 oRw.2, ?_, by simp [l2], ?_⟩
      · exact fun b o e n1 n2 => by rw [upd_ne (ne_of_none e fCa)]; exact (x4.trans X5) b o e n1 n2
      · rw [upd_same, List.map_append]; rfl
      · intro y hy
        rw [List.mem_append] at hy
        rcases hy with h | h
        · exact b2 y h
        · simp only [List.mem_singleton] at h; omega
    rintro σ H2 ⟨y7, t2, cs, rfl, d2, ht2', x2, eR2, eC2, l2, b2⟩
    have lcs : cs.length = n := by omega
    -- groups
    refine ⟨.ref st, rfl, .int gm, rfl, st, g, t2, _, rfl, d2, by omega, by omega, by omega, fun H3 d3 h30 h31 D3 X3 => ⟨_, _, rfl, rfl, ?_⟩⟩
    have x3 := x2.trans X3
    refine ⟨1 + d3, rfl, by omega, by omega, for_it (walk_range (lo := 0) (n := (1 + d3).toNat))
      (fun i σ H4 => ∃ (z7 z8 z9 z10 z11 z12 : Option V) (t4 : Nat) (vs : List V) (gs : List Gp), σ = [some (.ref st), some (.int pm), some (.int gm), some (.int top), some (.int n), some (.ref Ca), some (.ref Rw), z7, z8, z9, z10, z11, z12] ∧ DV H4 st g t4 ∧ t4 ≤ t2 + 1 + 20 * i ∧ Ext st g H H4 ∧ H4 Ca = some (.lst (cs.map V.int)) ∧
        H4 Rw = some (.lst vs) ∧ DpAll K H4 vs (gs.map dGrp) ∧ gs.length = i ∧ ∀ g ∈ gs, g.1.length ≤ 6 ∧ (∀ p ∈ g.1, 0 ≤ p ∧ p < (n : Int)) ∧ (1 ≤ g.2 ∧ g.2 ≤ top) ∧ g.1.Nodup)
      ⟨_, none, none, none, none, none, t2 + 1, [], [], rfl, D3, by omega, x3, X3 _ _ eC2 oCa.1 oCa.2, X3 _ _ eR2 oRw.1 oRw.2, .nil, rfl, fun g h => by simp at h⟩ (fun _ _ _ _ _ => trivial) ?_ ?_⟩
    · rintro i v σ H4 H4' hlt ⟨z7, z8, z9, z10, z11, z12, t4, vs, gs, rfl, d4, ht4, x4, eC4, eR4, hvs, lgs, bgs⟩ ⟨rfl, rfl⟩
      have hi10 : i < 10 := by omega
      have hvl : vs.length = i := by rw [DpAll.len hvs, List.length_map, lgs]
      refine ⟨.int n, rfl, n, rfl, RgOk.of_le (by omega) (by omega) (by omega) (by omega), fun Nm nNm => ?_⟩
      have oNm := d4.off nNm
      have fNm := d4.nil x4 nNm
      have d5 := d4.new nNm (o := .lst (rgV 0 n))
      have eN5 : (upd H4' Nm (.lst (rgV 0 n))) Nm = some (.lst ((upTo n).map V.int)) := by rw [upd_same, rgV_upTo]
      have eC5 := upNew nNm (o := .lst (rgV 0 n)) eC4
      have eR5 := upNew nNm (o := .lst (rgV 0 n)) eR4
      have x5 := x4.trans (Ext.of (sameNew (o := .lst (rgV 0 n)) nNm))
      have tk5 : TupK H4' (upd H4' Nm (.lst (rgV 0 n))) := TupK.new nNm
      have nCN : Ca ≠ Nm := ne_of_none eC4 nNm
      have nRN : Rw ≠ Nm := ne_of_none eR4 nNm
      generalize upd H4' Nm (.lst (rgV 0 n)) = H5 at d5 eN5 eC5 eR5 x5 tk5
      refine ⟨.int n, rfl, n, rfl, by omega, by omega, fun Ch nCh => lc_it (walk_range (lo := 0) (n := (n : Int).toNat))
        (fun j H7 => ∃ (ns ls : List Int), DV H7 st g (t4 + j) ∧ Ext st g H H7 ∧ TupK H4' H7 ∧ H7 Ca = some (.lst (cs.map V.int)) ∧ H7 Rw = some (.lst vs) ∧ H7 Nm = some (.lst (ns.map V.int)) ∧ ns.length + j = n ∧ (∀ x ∈ ns, 0 ≤ x ∧ x < (n : Int)) ∧
          H7 Ch = some (.lst (ls.map V.int)) ∧ ls.length = j ∧ (∀ x ∈ ls, 0 ≤ x ∧ x < (n : Int)) ∧ (ls ++ ns).Nodup)
        ⟨upTo n, [], d5.new nCh, x5.trans (Ext.of (sameNew nCh)), tk5.trans (TupK.new nCh), upNew nCh eC5, upNew nCh eR5, upNew nCh eN5, upTo_len n, fun x h => upTo_mem h, upd_same, rfl, (fun x h => by simp at h), by simpa using upTo_nodup n⟩ (fun _ _ _ _ => trivial) ?_ ?_⟩
      · rintro j v H7 H8 hltj ⟨ns, ls, d7, x7, tk7, eC7, eR7, eN7, lN7, bN7, eO7, lO7, bO7, hnd⟩ ⟨rfl, rfl⟩
        have oCh := d5.off nCh
        have fCh := d5.nil x5 nCh
        have nNC : Nm ≠ Ch := ne_of_none eN5 nCh
        have nCC : Ca ≠ Ch := ne_of_none eC5 nCh
        have nRC : Rw ≠ Ch := ne_of_none eR5 nCh
        refine ⟨rfl, .ref Nm, rfl, .inl ⟨rfl, _, SqL.of eN7⟩, .ref st, rfl, .ref Nm, rfl, Nm, _, rfl, .inl (SqL.of eN7), st, g, t4 + j, _, rfl, d7, by omega, by rw [List.length_map]; omega, by rw [List.length_map]; omega, fun H9 d9 h90 h91 D9 X9 => ?_⟩
        rw [List.length_map] at h91
        have eN9 := X9 _ _ eN7 oNm.1 oNm.2
        have eO9 := X9 _ _ eO7 oCh.1 oCh.2
        have hk : d9.toNat < ns.length := by omega
        have eOz : (upd H9 Nm (.lst ((ns.map V.int).eraseIdx d9.toNat))) Ch = some (.lst (ls.map V.int)) := by rw [upd_ne nNC.symm]; exact eO9
        refine ⟨Nm, _, d9, d9.toNat, .int ns[d9.toNat], rfl, rfl, eN9, by omega, by omega, seqIndex_of h90 (by rw [List.length_map]; omega), by rw [List.getElem?_map, List.getElem?_eq_getElem hk]; rfl, _, eOz, by rw [List.length_map]; exact small (by omega),
          ns.eraseIdx d9.toNat, ls ++ [ns[d9.toNat]], (D9.put oNm.1 oNm.2).put oCh.1 oCh.2, ?_, ((tk7.trans (d7.tup X9)).trans (TupK.put eN9)).trans (TupK.put eOz), ?_, ?_, ?_, ?_, ?_, ?_, by simp [lO7], ?_, nodup_step hk hnd⟩
        · exact fun b o e n1 n2 => by rw [upd_ne (ne_of_none e fCh), upd_ne (ne_of_none e fNm)]; exact (x7.trans X9) b o e n1 n2
        · rw [upd_ne nCC, upd_ne nCN]; exact X9 _ _ eC7 oCa.1 oCa.2
        · rw [upd_ne nRC, upd_ne nRN]; exact X9 _ _ eR7 oRw.1 oRw.2
        · rw [upd_ne nNC, upd_same, erase_map]
        · rw [List.length_eraseIdx_of_lt hk]; omega
        · exact fun x hx => bN7 x (List.mem_of_mem_eraseIdx hx)
        · rw [upd_same, List.map_append]; rfl
        · intro x hx
          rw [List.mem_append] at hx
          rcases hx with h | h
          · exact bO7 x h
          · simp at h; subst h; exact bN7 _ (List.getElem_mem hk)
      rintro H7 ⟨ns, ls, d7, x7, tk7, eC7, eR7, eN7, lN7, bN7, eO7, lO7, bO7, hnd⟩
      have hnn : (n : Int).toNat = n := by omega
      rw [hnn] at d7 lO7
      have oCh := d5.off nCh
      have hnl : ls.Nodup := (List.nodup_append.mp hnd).1
      -- favorite
      refine ⟨.ref st, rfl, .int n, rfl, _, _, rfl, st, g, t4 + n, _, rfl, d7, by omega, by split <;> omega, by split <;> omega, fun H8 fv h80 h81 D8 X8 => ?_⟩
      have hfv : fv < (n : Int) := by split at h81 <;> omega
      have eO8 := X8 _ _ eO7 oCh.1 oCh.2
      have eC8 := X8 _ _ eC7 oCa.1 oCa.2
      have eR8 := X8 _ _ eR7 oRw.1 oRw.2
      have x8 := x7.trans X8
      have tk8 := tk7.trans (d7.tup X8)
      dsimp only [gName]
      refine seq_with (t := tIfS _ _ _) (fun σ1 H9 => ∃ (Or : Addr) (ord : List Int), σ1 = [some (.ref st), some (.int pm), some (.int gm), some (.int top), some (.int n), some (.ref Ca), some (.ref Rw), z7, some (.int (0 + (i : Nat))), some (.ref Nm), some (.ref Or), some (.int fv), z12] ∧ DV H9 st g (t4 + n + 2) ∧ Ext st g H H9 ∧ TupK H4' H9 ∧ H9 Ca = some (.lst (cs.map V.int)) ∧ H9 Rw = some (.lst vs) ∧ H9 Or = some (.lst (ord.map V.int)) ∧ Or ≠ st ∧ Or ≠ g ∧ (∀ x ∈ ord, 0 ≤ x ∧ x < (n : Int)) ∧ ord.Nodup) ?rest (fun rest => ?main)
      case main =>
        refine ⟨.ref st, rfl, st, g, t4 + n + 1, _, rfl, D8, by omega, by decide, by decide, fun H9 d9 h90 h91 D9 X9 => ⟨_, _, rfl, rfl, _, rfl, ite2 (fun h1 => ?_) (fun h1 => ?_)⟩⟩
        · have eO9 := X9 _ _ eO8 oCh.1 oCh.2
          refine ⟨.int fv, rfl, (show (1 : Nat) ≤ sizeLine by decide), fun p1 n1 => ⟨.ref Ch, rfl, Ch, rfl, ⟨_, SqL.of (upNew n1 eO9)⟩, fun D nD => lc_it (walk_list (K := K) (a := Ch) (xs := ls.map V.int))
            (fun k H10 => Same (upd H9 p1 (.lst [.int fv])) H10 ∧ H10 D = some (.lst (((ls.take k).filter (fun x => decide (x ≠ fv))).map V.int))) ⟨sameNew nD, upd_same⟩ (fun k H10 _ h => SqL.of (h.1 _ _ (upNew n1 eO9))) ?_ ?_⟩⟩
          · rintro k v H10 H11 hltk ⟨s10, e10⟩ ⟨rfl, hv⟩
            have hv' : (ls.map V.int)[k]? = some v := hv
            rw [List.getElem?_map] at hv'
            obtain ⟨z, hz, rfl⟩ := Option.map_eq_some_iff.mp hv'
            rw [List.length_map] at hltk
            refine ⟨rfl, .int z, rfl, .int fv, rfl, rfl, _, rfl, ite2 (fun h1 => ?_) (fun h1 => ?_)⟩
            · have h1 : z ≠ fv := by intro e; rw [e] at h1; simp at h1
              refine ⟨.int z, rfl, _, e10, ?_, samePut s10 nD, ?_⟩
              · rw [List.length_map]; exact small (Nat.le_trans (List.length_filter_le ..) (by rw [List.length_take]; omega))
              · rw [upd_same, take_snoc hz, List.filter_append, List.map_append]; simp [h1]
            · have h1 : z = fv := by
                by_cases e : z = fv
                · exact e
                · exact absurd (by simp [e]) h1
              refine ⟨s10, ?_⟩
              rw [e10, take_snoc hz, List.filter_append]; simp [h1]
          rintro H10 ⟨s10, e10⟩
          rw [List.length_map, List.take_length] at e10
          refine ⟨p1, D, _, _, rfl, rfl, s10 _ _ upd_same, e10, ?_, fun Or nOr => ?_⟩
          · rw [List.length_map]
            have h2 := List.length_filter_le (fun x => decide (x ≠ fv)) ls
            have := small (n := 10) (by omega)
            simp at h2 ⊢
            omega
          have s11 := ((sameNew (o := .lst [.int fv]) n1).trans s10).trans (sameNew (o := .lst ([.int fv] ++ (ls.filter (fun x => decide (x ≠ fv))).map V.int)) nOr)
          have D11 := D9.same s11
          have oOr := (D9.same ((sameNew (o := .lst [.int fv]) n1).trans s10)).off nOr
          refine rest _ _ ⟨Or, fv :: ls.filter (fun x => decide (x ≠ fv)), rfl, D11, (x8.trans X9).trans (Ext.of s11), (tk8.trans (D8.tup X9)).trans (TupK.of s11), s11 _ _ (X9 _ _ eC8 oCa.1 oCa.2), s11 _ _ (X9 _ _ eR8 oRw.1 oRw.2), by rw [upd_same]; rfl, oOr.1, oOr.2, ?_, ?_⟩
          · intro x hx
            rcases List.mem_cons.mp hx with rfl | hx
            · exact ⟨h80, hfv⟩
            · exact bO7 x (List.mem_filter.mp hx).1
          · refine List.nodup_cons.mpr ⟨fun z => ?_, hnl.filter _⟩
            have := (List.mem_filter.mp z).2
            simp at this
        · exact rest _ _ ⟨Ch, ls, rfl, D9, x8.trans X9, tk8.trans (D8.tup X9), X9 _ _ eC8 oCa.1 oCa.2, X9 _ _ eR8 oRw.1 oRw.2, X9 _ _ eO8 oCh.1 oCh.2, oCh.1, oCh.2, bO7, hnl⟩
      case rest =>
      rintro σ1 H9 ⟨Or, ord, rfl, D9, x9, tk9, eC9, eR9, eO9, oO1, oO2, bO, ndO⟩
      -- size
      refine ⟨.int n, rfl, .int n, rfl, _, _, rfl, .ref st, rfl, .int n, rfl, _, _, rfl, rfl, st, g, t4 + n + 2, _, rfl, D9, by omega, by omega, by omega, fun H10 sz h100 h101 D10 X10 => ?_⟩
      refine ⟨(show (3 : Nat) ≤ sizeLine by decide), fun Z nZ => ⟨.ref st, rfl, st, g, t4 + n + 2 + 1, _, rfl, D10.new nZ, by omega, by decide, by decide, fun H11 kk h110 h111 D11 X11 => ?_⟩⟩
      obtain ⟨oZ1, oZ2⟩ := D10.off nZ
      have eZ := X11 _ _ upd_same oZ1 oZ2
      have x911 := (X10.trans (Ext.of (sameNew nZ))).trans X11
      have eC11 := x911 _ _ eC9 oCa.1 oCa.2
      have eR11 := x911 _ _ eR9 oRw.1 oRw.2
      have eO11 := x911 _ _ eO9 oO1 oO2
      have x11 := x9.trans x911
      have tk11 := tk9.trans (D9.tup x911)
      obtain ⟨k, hk, hk6⟩ : ∃ k : Nat, atI [V.int n, V.int (if (2 : Int) < n then 2 else n), V.int sz] kk = some (.int k) ∧ k ≤ 6 := by
        obtain h | h | h : kk = 0 ∨ kk = 1 ∨ kk = 2 := by omega
        · exact ⟨n, by rw [h]; rfl, by omega⟩
        · by_cases h2 : (2 : Int) < n
          · exact ⟨2, by rw [h, if_pos h2]; rfl, by omega⟩
          · exact ⟨n, by rw [h, if_neg h2]; rfl, by omega⟩
        · exact ⟨sz.toNat, by rw [h, show ((sz.toNat : Nat) : Int) = sz by omega]; rfl, by omega⟩
      refine ⟨Z, _, _, _, rfl, rfl, SqL.of eZ, hk, ?_⟩
      -- groups.append
      have hcut : cutV (ord.map V.int) none (some (k : Int)) = (ord.take k).map V.int := by rw [List.map_take]; exact cut_to _ k
      refine ⟨.ref Rw, rfl, .inl ⟨rfl, _, SqL.of eR11⟩, .ref Or, rfl, .int k, rfl, _, rfl, Or, _, rfl, SqL.of eO11, fun W nW => ?_⟩
      rw [hcut]
      refine ⟨W, _, rfl, .inl ⟨SqL.of upd_same, fun Tp nTp => ?_⟩⟩
      have s12 := (sameNew (o := .lst ((ord.take k).map V.int)) nW).trans (sameNew (o := .tup ((ord.take k).map V.int)) nTp)
      refine ⟨.ref st, rfl, .int top, rfl, st, g, t4 + n + 2 + 1 + 1, top, rfl, D11.same s12, by omega, by omega, by omega, fun H13 am t13 ha1 ha2 D13 ht13 X13 => ⟨(show (2 : Nat) ≤ sizeLine by decide), fun Gr nGr => ?_⟩⟩
      have eR13 := X13 _ _ (s12 _ _ eR11) oRw.1 oRw.2
      have eC13 := X13 _ _ (s12 _ _ eC11) oCa.1 oCa.2
      have eF := upNew nGr (o := .tup [.ref Tp, .int am]) eR13
      have tk13 := (tk11.trans (TupK.of s12)).trans ((D11.same s12).tup X13)
      have sT : SqT K H13 Tp ((ord.take k).map V.int) := ((D11.same s12).tup X13).sq (SqT.of upd_same)
      have tkz : TupK H13 (upd (upd H13 Gr (.tup [.ref Tp, .int am])) Rw (.lst (vs ++ [.ref Gr]))) := (TupK.new nGr).trans (TupK.put eF)
      refine ⟨Rw, vs, _, rfl, rfl, eF, by rw [hvl]; exact small (by omega), _, _, _, _, _, _, t13, vs ++ [.ref Gr], gs ++ [(ord.take k, am)], rfl, (D13.new nGr).put oRw.1 oRw.2, by omega, ?_, by rw [upd_ne nCR]; exact upNew nGr eC13, upd_same, ?_, by simp [lgs], ?_⟩
      · exact fun b o e n1 n2 => by rw [upd_ne (ne_of_none e fRw)]; exact (((x11.trans (Ext.of s12)).trans X13).trans (Ext.of (sameNew nGr))) b o e n1 n2
      · rw [List.map_append]
        refine DpAll.snoc ((tk13.trans tkz).dpAll _ _ (to_grps _) hvs) (.tup (SqT.of ?_) (.cons (dI_sq (tkz.sq sT)) (.cons (.int _) .nil)))
        rw [upd_ne (ne_of_none eR13 nGr).symm]
        exact upd_same
      · intro g' hg'
        rw [List.mem_append] at hg'
        rcases hg' with h | h
        · exact bgs g' h
        · simp only [List.mem_singleton] at h
          subst h
          exact ⟨by rw [List.length_take]; omega, fun x hx => bO x (List.mem_of_mem_take hx), ⟨ha1, ha2⟩, (List.take_sublist k ord).nodup ndO⟩
    · rintro σ H4 ⟨z7, z8, z9, z10, z11, z12, t4, vs, gs, rfl, d4, ht4, x4, eC4, eR4, hvs, lgs, bgs⟩
      refine ⟨.ref Ca, rfl, Ca, _, rfl, .inl ⟨SqL.of eC4, fun Ct nCt => ⟨.ref Rw, rfl, Rw, _, rfl, .inl ⟨SqL.of (upNew nCt eR4), fun Gt nGt => ⟨(show (2 : Nat) ≤ sizeLine by decide), fun In nIn => ?_⟩⟩⟩⟩⟩
      have tkz : TupK H4 (upd (upd (upd H4 Ct (.tup (cs.map V.int))) Gt (.tup vs)) In (.tup [.ref Ct, .ref Gt])) := ((TupK.new nCt).trans (TupK.new nGt)).trans (TupK.new nIn)
      refine q _ In t4 cs gs (((d4.new nCt).new nGt).new nIn) (by omega) (((x4.trans (Ext.of (sameNew nCt))).trans (Ext.of (sameNew nGt))).trans (Ext.of (sameNew nIn)))
        (.tup (SqT.of upd_same) (.cons (dI_sq (((TupK.new nGt).trans (TupK.new nIn)).sq (SqT.of upd_same))) (.cons (.tup (SqT.of (upNew nIn upd_same)) (tkz.dpAll _ _ (to_grps _) hvs)) .nil)))
        ⟨by omega, by omega, fun x hx => by have := b2 x hx; omega, by omega, by omega, ?_⟩ (fun g hg => (bgs g hg).2.2.2) (by omega) (fun x hx => (b2 x hx).2) (by omega) (fun g hg => (bgs g hg).2.2.1.2)
      rw [lcs]
      exact fun g hg => ⟨(bgs g hg).1, (bgs g hg).2.1, (bgs g hg).2.2.1.1, by have := (bgs g hg).2.2.1.2; omega⟩
end
end Pv

namespace Pv
open PySem PySem.Spec PyProof.Rows L2
abbrev sSame : Stmt := topS 20
theorem scSame : FnScope ["_law_found", "_law_due", "_law_k"] ["_law_found", "_law_due"] (defScope sSame) := ⟨rfl, rfl, rfl, by decide +kernel, rfl, by decide +kernel, by decide +kernel⟩
mutual
def plain : PyData → Bool
  | .none | .int _ | .bool _ | .str _ => true
  | .list xs | .tuple xs => decide (xs.length ≤ 1000) && plainAll xs
  | _ => false
def plainAll : List PyData → Bool
  | [] => true
  | x :: xs => plain x && plainAll xs
end
theorem plainAll_at : ∀ {xs : List PyData} {i : Nat} {d : PyData}, plainAll xs = true → xs[i]? = some d → plain d = true
  | [], _, _, _, e => by simp at e
  | x :: xs, 0, d, h, e => by simp [plainAll] at h e; subst e; exact h.1
  | x :: xs, i + 1, d, h, e => by simp [plainAll] at h e; exact plainAll_at h.2 e
theorem depthAll_at : ∀ {xs : List PyData} {i : Nat} {d : PyData}, xs[i]? = some d → d.depth ≤ PyData.depthAll xs
  | [], _, _, e => by simp at e
  | x :: xs, 0, d, e => by simp at e; subst e; simp only [PyData.depthAll]; omega
  | x :: xs, i + 1, d, e => by
    have := depthAll_at (xs := xs) (i := i) (d := d) (by simpa using e)
    simp only [PyData.depthAll]; omega
inductive SeqAs (K : PySem.W.Frag) (H : Hp) (a : Addr) (xs : List V) : String → Prop
  | l : SqL K H a xs → SeqAs K H a xs "list"
  | t : SqT K H a xs → SeqAs K H a xs "tuple"
section
variable {K : PySem.W.Frag} {H H' : Hp} {a : Addr} {xs : List V} {T : String}
theorem SeqAs.same (h : SeqAs K H a xs T) (s : Same H H') : SeqAs K H' a xs T := by
  cases h with
  | l h => exact .l (s.seq h)
  | t h => exact .t ((TupK.of s).sq h)
theorem SeqAs.ty (h : SeqAs K H a xs T) : TyX K H (.ref a) (.type T) := by
  cases h with
  | l h => exact ty_sqL h
  | t h => exact ty_sq h
theorem SeqAs.or (h : SeqAs K H a xs T) : SqL K H a xs ∨ SqT K H a xs := by
  cases h with
  | l h => exact .inl h
  | t h => exact .inr h
theorem SeqAs.ix (h : SeqAs K H a xs T) {j : Nat} {v : V} {Q : VK} (e : xs[j]? = some v) (q : Q v H) : rIx K (.ref a) (.int j) H Q := by
  cases h with
  | l h => exact .inl ⟨a, xs, _, v, rfl, rfl, h, atI_nat e, q⟩
  | t h => exact .inr (.inl ⟨a, xs, _, v, rfl, rfl, h, atI_nat e, q⟩)
theorem SeqAs.kit (h : SeqAs K H a xs T) (S : String) (hS : S = "list" ∨ S = "tuple") : PySem.W.kitOne K (.type T) (.type S) = some (T == S) := by
  cases h <;> rcases hS with rfl | rfl <;> exact kit_ty (by decide +kernel)
theorem SeqAs.kits (h : SeqAs K H a xs T) : PySem.W.kitAny K (.type T) [.type "tuple", .type "list"] = some true := by
  cases h with
  | l h => exact kitAny_cons (kit_ty (b := "tuple") (r := false) (by decide +kernel)) (fun _ => kitAny_cons (kit_ty (b := "list") (r := true) (by decide +kernel)) (fun z => by cases z) (fun _ => rfl)) (fun z => by cases z)
  | t h => exact kitAny_cons (kit_ty (b := "tuple") (r := true) (by decide +kernel)) (fun z => by cases z) (fun _ => rfl)
end
section
variable {P : Program} {w : World} {K : PySem.W.Frag} {mg : Str → Option Value} {base : Heap}
def spS (K : PySem.W.Frag) : Nat → Sp
  | 0 => fun _ _ _ _ => False
  | n + 1 => fun vs H Q _ => ∃ (x y : V) (d : PyData), vs = [x, y] ∧ Dp K H x d ∧ Dp K H y d ∧ plain d = true ∧ d.depth ≤ n ∧ ∀ H', Same H H' → Q (.bl true) H'
mutual
theorem same_dp {H H' : Hp} (s : Same H H') : ∀ {d : PyData} {v : V}, plain d = true → Dp K H v d → Dp K H' v d
  | .none, _, _, h => by cases h; exact .non
  | .int _, _, _, h => by cases h; exact .int _
  | .list xs, _, t, h => by
    simp only [plain, Bool.and_eq_true] at t
    cases h with
    | lst h1 h2 => exact .lst (s.seq h1) (same_dpAll s t.2 h2)
  | .tuple xs, _, t, h => by
    simp only [plain, Bool.and_eq_true] at t
    cases h with
    | tup h1 h2 => exact .tup ((TupK.of s).sq h1) (same_dpAll s t.2 h2)
  | .bool _, _, _, h => by cases h; exact .bl _
  | .str _, _, _, h => by cases h; exact .str _
  | .dict _, _, t, _ => by simp [plain] at t
theorem same_dpAll {H H' : Hp} (s : Same H H') : ∀ {ds : List PyData} {vs : List V}, plainAll ds = true → DpAll K H vs ds → DpAll K H' vs ds
  | [], _, _, h => by cases h; exact .nil
  | d :: ds, _, t, h => by
    simp only [plainAll, Bool.and_eq_true] at t
    cases h with
    | cons h1 h2 => exact .cons (same_dp s t.1 h1) (same_dpAll s t.2 h2)
end
theorem eqv_nil : PyData.eqv (.list []) (.list []) = true := by simp [PyData.eqv, PyData.eqvAll]
set_option maxHeartbeats 4000000 in
theorem ok_same {f : Addr} {fd : FuncData} (F : Fun K "_law_same" "_law_same" sSame f fd) (b : Binds K fd ["_law_found", "_law_due"] []) (g : mg "_law_same" = some (.ref f))
    (m_tuple : mg "tuple" = none) (m_list : mg "list" = none) (m_isinstance : mg "isinstance" = none) (m_len : mg "len" = none) (m_range : mg "range" = none) (m_str : mg "str" = none) (m_int : mg "int" = none) (m_bool : mg "bool" = none) :
    ∀ n, FnOk P w K mg base CX0 n f fd ["_law_found", "_law_due"] (spS K n)
  | 0 => FnOk.none
  | n + 1 => by
    have G := ok_same F b g m_tuple m_list m_isinstance m_len m_range m_str m_int m_bool n
    refine F.ok scSame (fun vs H Q E h => ?_) (fun cdv A outer s H vs Q E hr h => ?_)
    · obtain ⟨x, y, d, rfl, _⟩ := h; rfl
    · obtain ⟨x, y, d, rfl, hx, hy, hpl, hdp, q⟩ := h
      have hu64 : (A.deeper (envOfC "_law_same" (defScope sSame) s.heap.objs.size f cdv)).units + 64 < cLine := by have := hr.un; omega
      refine ⟨_, pss_cons (ps_if (pt_val (pe_callB call_isiT (by rfl) m_isinstance (by decide +kernel) (pa_cons (pv 1) (pa_cons (pe_tup (pa_cons (pe_bltn (v := .ty "tuple") (by rfl) m_tuple (by decide +kernel) rfl) (pa_cons (pe_bltn (v := .ty "list") (by rfl) m_list (by decide +kernel) rfl) pa_nil))) pa_nil))))
          (pss_cons (ps_if (pt_cmpR op_ne (pe_callB call_isi (by rfl) m_isinstance (by decide +kernel) (pa_cons (pv 0) (pa_cons (pe_bltn (v := .ty "tuple") (by rfl) m_tuple (by decide +kernel) rfl) pa_nil))) (pe_callB call_isi (by rfl) m_isinstance (by decide +kernel) (pa_cons (pv 1) (pa_cons (pe_bltn (v := .ty "tuple") (by rfl) m_tuple (by decide +kernel) rfl) pa_nil))) (nomark _))
            (pss_one (ps_ret (pe_bl))) pss_nil)
          (pss_cons (ps_if (PW.pt (pw_or (pt_cmpR op_ne (pe_callB call_isi (by rfl) m_isinstance (by decide +kernel) (pa_cons (pv 0) (pa_cons (pe_bltn (v := .ty "list") (by rfl) m_list (by decide +kernel) rfl) pa_nil))) (pe_callB call_isi (by rfl) m_isinstance (by decide +kernel) (pa_cons (pv 1) (pa_cons (pe_bltn (v := .ty "list") (by rfl) m_list (by decide +kernel) rfl) pa_nil))) (nomark _)) (pw_or1 (pt_cmpR op_ne (pe_callB call_lenQ (by rfl) m_len PySem.boot_len (pa_cons (pv 0) pa_nil)) (pe_callB call_lenQ (by rfl) m_len PySem.boot_len (pa_cons (pv 1) pa_nil)) (nomark _)))))
            (pss_one (ps_ret (pe_bl))) pss_nil)
          (pss_one (ps_ret (pe_cmpR (op_eqD hu64) (pe_lc (own := [("_law_k", 2)]) (g := gName 2) (tt := tNot (tB (tCall (spS K n) [] E0 (tCons (tOp (rIx K) (tVar 0) (tVar 2)) (tCons (tOp (rIx K) (tVar 1) (tVar 2)) tNil))))) (te := tVar 2) rfl scSame.nd (pi_range1 (by rfl) m_range (pa_cons (pe_callB call_lenQ (by rfl) m_len PySem.boot_len (pa_cons (pv 1) pa_nil)) pa_nil)) (blkOk_by (N := ["_law_found", "_law_due", "_law_k"]) (sc := defScope sSame) (by decide +kernel)) (fun _ _ _ _ _ => pg_name (i := 2) scSame.nd rfl (.inl rfl)) (fun _ _ _ _ _ => pts_one (pt_not (pt_val (pe_call G hr (by rfl) g F.kp b .nil pass0 (pa_cons (pe_ix ix_seq (pv 0) (pv 2) (fun _ _ => rfl)) (pa_cons (pe_ix ix_seq (pv 1) (pv 2) (fun _ _ => rfl)) pa_nil)))))) (fun _ _ _ _ _ => pv 2)) (pe_lst (pa_nil)) (nomark _)))))) pss_nil)
        (pss_cons (ps_if (pt_cmp (pc_isN (pv 1)))
          (pss_one (ps_ret (pe_cmp (pc_isN (pv 0))))) pss_nil)
        (pss_cons (ps_if (pt_val (pe_callB call_isi (by rfl) m_isinstance (by decide +kernel) (pa_cons (pv 1) (pa_cons (pe_bltn (v := .ty "str") (by rfl) m_str (by decide +kernel) rfl) pa_nil))))
          (pss_one (ps_ret (pe_and (pe_callB call_isi (by rfl) m_isinstance (by decide +kernel) (pa_cons (pv 0) (pa_cons (pe_bltn (v := .ty "str") (by rfl) m_str (by decide +kernel) rfl) pa_nil))) (pe_one (pe_cmpR op_eq (pv 0) (pv 1) (nomark _)))))) pss_nil)
        (pss_one (ps_ret (pe_and (pe_callB call_isi (by rfl) m_isinstance (by decide +kernel) (pa_cons (pv 0) (pa_cons (pe_bltn (v := .ty "int") (by rfl) m_int (by decide +kernel) rfl) pa_nil))) (pe_and (pe_cmpR op_eq (pe_callB call_isi (by rfl) m_isinstance (by decide +kernel) (pa_cons (pv 0) (pa_cons (pe_bltn (v := .ty "bool") (by rfl) m_bool (by decide +kernel) rfl) pa_nil))) (pe_callB call_isi (by rfl) m_isinstance (by decide +kernel) (pa_cons (pv 1) (pa_cons (pe_bltn (v := .ty "bool") (by rfl) m_bool (by decide +kernel) rfl) pa_nil))) (nomark _)) (pe_one (pe_cmpR op_eq (pv 0) (pv 1) (nomark _))))))))), ?_⟩
      refine ⟨y, rfl, (show (2 : Nat) ≤ sizeLine by decide), fun tp ntp => ?_⟩
      have s1 : Same H (upd H tp (.tup [.ty "tuple", .ty "list"])) := sameNew ntp
      have cls : (∃ (T : String) (a b' : Addr) (xs ys : List V) (ds : List PyData), x = .ref a ∧ y = .ref b' ∧ SeqAs K H a xs T ∧ SeqAs K H b' ys T ∧ DpAll K H xs ds ∧ DpAll K H ys ds ∧ ds.length ≤ 1000 ∧ plainAll ds = true ∧ PyData.depthAll ds + 1 ≤ n) ∨
          (x = .non ∧ y = .non) ∨ (∃ i, x = .int i ∧ y = .int i) ∨ (∃ b, x = .bl b ∧ y = .bl b) ∨ ∃ z, x = .str z ∧ y = .str z := by
        cases d with
        | none => cases hx; cases hy; exact .inr (.inl ⟨rfl, rfl⟩)
        | int i => cases hx; cases hy; exact .inr (.inr (.inl ⟨i, rfl, rfl⟩))
        | list ds =>
          simp only [plain, Bool.and_eq_true, decide_eq_true_eq] at hpl
          simp only [PyData.depth] at hdp
          cases hx with
          | lst h1 h2 => cases hy with
            | lst h3 h4 => exact .inl ⟨"list", _, _, _, _, ds, rfl, rfl, .l h1, .l h3, h2, h4, hpl.1, hpl.2, hdp⟩
        | tuple ds =>
          simp only [plain, Bool.and_eq_true, decide_eq_true_eq] at hpl
          simp only [PyData.depth] at hdp
          cases hx with
          | tup h1 h2 => cases hy with
            | tup h3 h4 => exact .inl ⟨"tuple", _, _, _, _, ds, rfl, rfl, .t h1, .t h3, h2, h4, hpl.1, hpl.2, hdp⟩
        | bool bb => cases hx; cases hy; exact .inr (.inr (.inr (.inl ⟨bb, rfl, rfl⟩)))
        | str z => cases hx; cases hy; exact .inr (.inr (.inr (.inr ⟨z, rfl, rfl⟩)))
        | dict _ => simp [plain] at hpl
      rcases cls with ⟨T, a, b', xs, ys, ds, rfl, rfl, hX, hY, dx, dy, hds, hpa, hda⟩ | ⟨rfl, rfl⟩ | ⟨i, rfl, rfl⟩ | ⟨bb, rfl, rfl⟩ | ⟨z, rfl, rfl⟩
      · have hX1 := hX.same s1
        have hY1 := hY.same s1
        refine ⟨.ref b', tp, _, _, _, true, rfl, upd_same, .cons (.ty _) (.cons (.ty _) .nil), hY1.ty, hY1.kits, true, rfl, iteT ?_⟩
        refine ⟨.ref a, rfl, .ref a, .ty "tuple", _, _, _, rfl, .ty _, hX1.ty, hX1.kit "tuple" (.inr rfl), .ref b', rfl, .ref b', .ty "tuple", _, _, _, rfl, .ty _, hY1.ty, hY1.kit "tuple" (.inr rfl), rfl, _, rfl, iteNS rfl ?_⟩
        refine ⟨.ref a, rfl, .ref a, .ty "list", _, _, _, rfl, .ty _, hX1.ty, hX1.kit "list" (.inl rfl), .ref b', rfl, .ref b', .ty "list", _, _, _, rfl, .ty _, hY1.ty, hY1.kit "list" (.inl rfl), rfl, _, rfl, iteNS rfl ?_⟩
        have lx := DpAll.len dx
        have ly := DpAll.len dy
        refine ⟨.ref a, rfl, a, xs, rfl, hX1.or, .ref b', rfl, b', ys, rfl, hY1.or, rfl, _, rfl, iteNS (by rw [lx, ly]) ?_⟩
        refine ⟨.ref b', rfl, b', ys, rfl, hY1.or, _, rfl, by omega, by omega, fun D nD => lc_it (walk_range (lo := 0) (n := (ys.length : Int).toNat))
          (fun j H2 => Same H H2 ∧ H2 D = some (.lst [])) ⟨s1.trans (sameNew nD), upd_same⟩ (fun _ _ _ _ => trivial) ?_ ?_⟩
        · rintro j v H2 H3 hlt ⟨s2, e2⟩ ⟨rfl, rfl⟩
          have hj : j < ys.length := by omega
          have hj2 : j < xs.length := by omega
          have ex : xs[j]? = some xs[j] := List.getElem?_eq_getElem hj2
          have ey : ys[j]? = some ys[j] := List.getElem?_eq_getElem hj
          obtain ⟨d1, hd1, hx1⟩ := DpAll.at dx ex
          obtain ⟨d2, hd2, hy1⟩ := DpAll.at dy ey
          rw [hd1] at hd2
          cases hd2
          have hpd := plainAll_at hpa hd1
          have hdd := depthAll_at hd1
          obtain ⟨n', rfl⟩ : ∃ n', n = n' + 1 := ⟨n - 1, by omega⟩
          have e0 : (0 : Int) + (j : Nat) = (j : Nat) := by omega
          dsimp only
          rw [e0]
          refine ⟨rfl, .ref a, rfl, .int (j : Nat), rfl, (hX.same s2).ix ex ⟨.ref b', rfl, .int (j : Nat), rfl, (hY.same s2).ix ey ?_⟩⟩
          refine ⟨_, _, d1, rfl, same_dp s2 hpd hx1, same_dp s2 hpd hy1, hpd, by omega, fun H4 s4 => ⟨_, rfl, ?_⟩⟩
          exact ⟨s2.trans s4, s4 _ _ e2⟩
        · rintro H2 ⟨s2, e2⟩
          refine ⟨Nat.zero_le _, fun p np => ⟨.list [], .list [], .lst (SqL.of (upNew np e2)) .nil, .lst (SqL.of upd_same) .nil, by decide, by decide, ?_⟩⟩
          rw [eqv_nil]
          exact q _ (s2.trans (sameNew np))
      · have kn : PySem.W.kitAny K (.type "NoneType") [.type "tuple", .type "list"] = some false :=
          kitAny_cons (kit_ty (b := "tuple") (r := false) (by decide +kernel)) (fun _ => kitAny_cons (kit_ty (b := "list") (r := false) (by decide +kernel)) (fun _ => kitAny_nil) (fun z => by cases z)) (fun z => by cases z)
        refine ⟨.non, tp, _, _, _, false, rfl, upd_same, .cons (.ty _) (.cons (.ty _) .nil), .base .non, kn, false, rfl, iteF ?_⟩
        refine ⟨.non, rfl, _, rfl, iteT ?_⟩
        exact ⟨.non, rfl, q _ s1⟩
      · have kn : PySem.W.kitAny K (.type "int") [.type "tuple", .type "list"] = some false :=
          kitAny_cons (kit_ty (b := "tuple") (r := false) (by decide +kernel)) (fun _ => kitAny_cons (kit_ty (b := "list") (r := false) (by decide +kernel)) (fun _ => kitAny_nil) (fun z => by cases z)) (fun z => by cases z)
        refine ⟨.int i, tp, _, _, _, false, rfl, upd_same, .cons (.ty _) (.cons (.ty _) .nil), .base (.int i), kn, false, rfl, iteF ?_⟩
        refine ⟨.int i, rfl, _, rfl, iteF ?_⟩
        refine ⟨.int i, rfl, .int i, .ty "str", _, _, false, rfl, .ty _, .base (.int i), kit_ty (by decide +kernel), false, rfl, iteF ?_⟩
        refine ⟨.int i, rfl, .int i, .ty "int", _, _, true, rfl, .ty _, .base (.int i), kit_ty (by decide +kernel), true, rfl, iteT ?_⟩
        refine ⟨.int i, rfl, .int i, .ty "bool", _, _, false, rfl, .ty _, .base (.int i), kit_ty (by decide +kernel), .int i, rfl, .int i, .ty "bool", _, _, false, rfl, .ty _, .base (.int i), kit_ty (by decide +kernel), rfl, _, rfl, iteT ?_⟩
        refine ⟨.int i, rfl, .int i, rfl, rfl, ?_⟩
        have := q _ s1
        rw [decide_eq_true rfl]
        exact this
      · have kn : PySem.W.kitAny K (.type "bool") [.type "tuple", .type "list"] = some false :=
          kitAny_cons (kit_ty (b := "tuple") (r := false) (by decide +kernel)) (fun _ => kitAny_cons (kit_ty (b := "list") (r := false) (by decide +kernel)) (fun _ => kitAny_nil) (fun z => by cases z)) (fun z => by cases z)
        refine ⟨.bl bb, tp, _, _, _, false, rfl, upd_same, .cons (.ty _) (.cons (.ty _) .nil), .base (.bl bb), kn, false, rfl, iteF ?_⟩
        refine ⟨.bl bb, rfl, _, rfl, iteF ?_⟩
        refine ⟨.bl bb, rfl, .bl bb, .ty "str", _, _, false, rfl, .ty _, .base (.bl bb), kit_ty (by decide +kernel), false, rfl, iteF ?_⟩
        refine ⟨.bl bb, rfl, .bl bb, .ty "int", _, _, true, rfl, .ty _, .base (.bl bb), kit_ty (by decide +kernel), true, rfl, iteT ?_⟩
        refine ⟨.bl bb, rfl, .bl bb, .ty "bool", _, _, true, rfl, .ty _, .base (.bl bb), kit_ty (by decide +kernel), .bl bb, rfl, .bl bb, .ty "bool", _, _, true, rfl, .ty _, .base (.bl bb), kit_ty (by decide +kernel), rfl, _, rfl, iteT ?_⟩
        refine ⟨.bl bb, rfl, .bl bb, rfl, rfl, ?_⟩
        have := q _ s1
        rw [decide_eq_true rfl]
        exact this
      · have kn : PySem.W.kitAny K (.type "str") [.type "tuple", .type "list"] = some false :=
          kitAny_cons (kit_ty (b := "tuple") (r := false) (by decide +kernel)) (fun _ => kitAny_cons (kit_ty (b := "list") (r := false) (by decide +kernel)) (fun _ => kitAny_nil) (fun z => by cases z)) (fun z => by cases z)
        refine ⟨.str z, tp, _, _, _, false, rfl, upd_same, .cons (.ty _) (.cons (.ty _) .nil), .base (.str z), kn, false, rfl, iteF ?_⟩
        refine ⟨.str z, rfl, _, rfl, iteF ?_⟩
        refine ⟨.str z, rfl, .str z, .ty "str", _, _, true, rfl, .ty _, .base (.str z), kit_ty (by decide +kernel), true, rfl, iteT ?_⟩
        refine ⟨.str z, rfl, .str z, .ty "str", _, _, true, rfl, .ty _, .base (.str z), kit_ty (by decide +kernel), true, rfl, iteT ?_⟩
        refine ⟨.str z, rfl, .str z, rfl, rfl, ?_⟩
        have := q _ s1
        rw [decide_eq_true rfl]
        exact this
end
end Pv

namespace Pv
open PySem PySem.Spec PyProof.Rows L2
abbrev sWhole : Stmt := topS 1
abbrev sWithin : Stmt := topS 2
abbrev sTupOf : Stmt := topS 3
theorem scWhole : FnScope ["value"] ["value"] (defScope sWhole) := ⟨rfl, rfl, rfl, by decide +kernel, rfl, by decide +kernel, by decide +kernel⟩
theorem scWithin : FnScope ["value", "least", "most"] ["value", "least", "most"] (defScope sWithin) := ⟨rfl, rfl, rfl, by decide +kernel, rfl, by decide +kernel, by decide +kernel⟩
theorem scTupOf : FnScope ["value", "least", "most"] ["value", "least", "most"] (defScope sTupOf) := ⟨rfl, rfl, rfl, by decide +kernel, rfl, by decide +kernel, by decide +kernel⟩

/-! what a value is, by its data -/
def wholeD (d : PyData) : Bool := isInt d && !isBool d
def withinD (a b : Int) : PyData → Bool
  | .int i => decide (a ≤ i ∧ i ≤ b)
  | _ => false
def tupOfD (a b : Int) : PyData → Bool
  | .tuple ds => decide (a ≤ (ds.length : Int) ∧ (ds.length : Int) ≤ b)
  | _ => false
def intsAll : List PyData → Option (List Int)
  | [] => some []
  | .int i :: r => (intsAll r).map (i :: ·)
  | _ :: _ => none
def intsOf : PyData → Option (List Int)
  | .tuple ds => intsAll ds
  | _ => none
theorem intsAll_ints : ∀ row : List Int, intsAll (row.map PyData.int) = some row
  | [] => rfl
  | i :: r => by simp [intsAll, intsAll_ints r]
theorem intsAll_eq : ∀ {ds : List PyData} {row : List Int}, intsAll ds = some row → ds = row.map PyData.int
  | [], row, h => by simp [intsAll] at h; subst h; rfl
  | d :: ds, row, h => by
    cases d <;> simp [intsAll] at h
    obtain ⟨r, h1, rfl⟩ := h
    rw [intsAll_eq h1]; rfl
theorem within_ints : ∀ {ds : List PyData} {a b : Int}, ds.all (withinD a b) = true → ∃ row : List Int, ds = row.map PyData.int ∧ row.all (fun x => decide (a ≤ x ∧ x ≤ b)) = true
  | [], _, _, _ => ⟨[], rfl, rfl⟩
  | d :: ds, a, b, h => by
    rw [List.all_cons, Bool.and_eq_true] at h
    obtain ⟨row, e, h2⟩ := within_ints h.2
    cases d with
    | int i => exact ⟨i :: row, by rw [e]; rfl, by rw [List.all_cons, Bool.and_eq_true]; exact ⟨h.1, h2⟩⟩
    | _ => simp [withinD] at h
section
variable {P : Program} {w : World} {K : PySem.W.Frag} {mg : Str → Option Value} {base : Heap}
def spWhole (K : PySem.W.Frag) : Sp := fun vs H Q _ => ∃ (st r : Addr) (v : V) (d : PyData), vs = [v] ∧ Dq K st r H v d ∧ Q (.bl (wholeD d)) H
theorem ok_whole {f : Addr} {fd : FuncData} {k : Nat} (F : Fun K "is_whole" "is_whole" sWhole f fd) (mi : mg "isinstance" = none) (mint : mg "int" = none) (mb : mg "bool" = none) :
    FnOk P w K mg base CX0 (k + 1) f fd ["value"] (spWhole K) := by
  refine F.ok scWhole (fun vs H Q E h => ?_) (fun cdv A outer s H vs Q E hr h => ?_)
  · obtain ⟨st, r, v, d, rfl, _⟩ := h; rfl
  · obtain ⟨st, r, v, d, rfl, hd, q⟩ := h
    refine ⟨_, pss_one (ps_ret (pe_and (pe_callB call_isi (by rfl) mi (by decide +kernel) (pa_cons (pv 0) (pa_cons (pe_bltn (v := .ty "int") (by rfl) mint (by decide +kernel) rfl) pa_nil)))
      (pe_one (pe_not (pe_callB call_isi (by rfl) mi (by decide +kernel) (pa_cons (pv 0) (pa_cons (pe_bltn (v := .ty "bool") (by rfl) mb (by decide +kernel) rfl) pa_nil))))))), ?_⟩
    refine ⟨v, rfl, v, .ty "int", _, _, _, rfl, .ty _, hd.ty, kit_int d, _, rfl, ite2 (fun h1 => ?_) (fun h1 => ?_)⟩
    · refine ⟨v, rfl, v, .ty "bool", _, _, _, rfl, .ty _, hd.ty, kit_bool d, _, rfl, ?_⟩
      unfold wholeD at q
      rw [h1, Bool.true_and] at q
      exact q
    · unfold wholeD at q
      rw [Bool.eq_false_iff.mpr h1, Bool.false_and] at q
      exact q
def spWithin (K : PySem.W.Frag) : Sp := fun vs H Q _ => ∃ (st r : Addr) (v : V) (d : PyData) (a b : Int), vs = [v, .int a, .int b] ∧ Dq K st r H v d ∧ Q (.bl (withinD a b d)) H
theorem ok_within {f fW : Addr} {fd fdW : FuncData} {k : Nat} (F : Fun K "is_within" "is_within" sWithin f fd) (FW : Fun K "is_whole" "is_whole" sWhole fW fdW) (bW : Binds K fdW ["value"] []) (gW : mg "is_whole" = some (.ref fW))
    (GW : FnOk P w K mg base CX0 1 fW fdW ["value"] (spWhole K)) : FnOk P w K mg base CX0 (1 + k + 1) f fd ["value", "least", "most"] (spWithin K) := by
  refine F.ok scWithin (fun vs H Q E h => ?_) (fun cdv A outer s H vs Q E hr h => ?_)
  · obtain ⟨st, r, v, d, a, b, rfl, _⟩ := h; rfl
  · obtain ⟨st, r, v, d, a, b, rfl, hd, q⟩ := h
    refine ⟨_, pss_one (ps_ret (pe_and (pe_call GW (hr.mono (by omega)) (by rfl) gW FW.kp bW .nil pass0 (pa_cons (pv 0) pa_nil)) (pe_one (pe_chain op_le op_le (pv 1) (pv 0) (pv 2))))), ?_⟩
    refine ⟨v, rfl, st, r, v, d, rfl, hd, _, rfl, ite2 (fun h1 => ?_) (fun h1 => ?_)⟩
    · cases d with
      | int i =>
        cases hd
        refine ⟨.int a, rfl, .int i, rfl, _, _, rfl, rfl, _, rfl, ite2 (fun h2 => ?_) (fun h2 => ?_)⟩
        · refine ⟨.int b, rfl, _, _, rfl, rfl, ?_⟩
          have h2' : a ≤ i := of_decide_eq_true h2
          simpa [withinD, h2'] using q
        · have h2' : ¬ a ≤ i := fun z => h2 (decide_eq_true z)
          simpa [withinD, h2'] using q
      | _ => simp [wholeD, isInt, isBool] at h1
    · cases d with
      | int i => simp [wholeD, isInt, isBool] at h1
      | _ => exact q
def spTupOf (K : PySem.W.Frag) : Sp := fun vs H Q _ => ∃ (st r : Addr) (v : V) (d : PyData) (a b : Int), vs = [v, .int a, .int b] ∧ Dq K st r H v d ∧ Q (.bl (tupOfD a b d)) H
theorem ok_tupOf {f : Addr} {fd : FuncData} {k : Nat} (F : Fun K "is_tuple_of" "is_tuple_of" sTupOf f fd) (mi : mg "isinstance" = none) (mt : mg "tuple" = none) (ml : mg "len" = none) :
    FnOk P w K mg base CX0 (k + 1) f fd ["value", "least", "most"] (spTupOf K) := by
  refine F.ok scTupOf (fun vs H Q E h => ?_) (fun cdv A outer s H vs Q E hr h => ?_)
  · obtain ⟨st, r, v, d, a, b, rfl, _⟩ := h; rfl
  · obtain ⟨st, r, v, d, a, b, rfl, hd, q⟩ := h
    refine ⟨_, pss_one (ps_ret (pe_and (pe_callB call_isi (by rfl) mi (by decide +kernel) (pa_cons (pv 0) (pa_cons (pe_bltn (v := .ty "tuple") (by rfl) mt (by decide +kernel) rfl) pa_nil)))
      (pe_one (pe_chain op_le op_le (pv 1) (pe_callB call_len_seq (by rfl) ml PySem.boot_len (pa_cons (pv 0) pa_nil)) (pv 2))))), ?_⟩
    refine ⟨v, rfl, v, .ty "tuple", _, _, _, rfl, .ty _, hd.ty, kit_tup d, _, rfl, ite2 (fun h1 => ?_) (fun h1 => ?_)⟩
    · cases d with
      | tuple ds =>
        cases hd with
        | @tup p xs _ hT ha =>
          refine ⟨.int a, rfl, .ref p, rfl, p, xs, rfl, .inr hT, _, _, rfl, rfl, _, rfl, ite2 (fun h2 => ?_) (fun h2 => ?_)⟩
          · refine ⟨.int b, rfl, _, _, rfl, rfl, ?_⟩
            have h2' : a ≤ (xs.length : Int) := of_decide_eq_true h2
            simpa [tupOfD, ← DqAll.len ha, h2'] using q
          · have h2' : ¬ a ≤ (xs.length : Int) := fun z => h2 (decide_eq_true z)
            simpa [tupOfD, ← DqAll.len ha, h2'] using q
      | _ => simp [isTup] at h1
    · cases d with
      | tuple ds => simp [isTup] at h1
      | _ => exact q
end
end Pv

namespace Pv
open PySem PySem.Spec PyProof.Rows L2
abbrev sOpt : Stmt := topS 5
abbrev sDem : Stmt := topS 6
abbrev sExc : Stmt := topS 7
abbrev sFre : Stmt := topS 8
abbrev sCla : Stmt := topS 9
abbrev sCro : Stmt := topS 10
abbrev sRes : Stmt := topS 11
theorem scOpt : FnScope ["instance", "group", "option", "posts"] ["instance", "group", "option"] (defScope sOpt) := ⟨rfl, rfl, rfl, by decide +kernel, rfl, by decide +kernel, by decide +kernel⟩
theorem scDem : FnScope ["instance", "totals", "posts", "count"] ["instance"] (defScope sDem) := ⟨rfl, rfl, rfl, by decide +kernel, rfl, by decide +kernel, by decide +kernel⟩
theorem scExc : FnScope ["instance", "capacity", "demand"] ["instance"] (defScope sExc) := ⟨rfl, rfl, rfl, by decide +kernel, rfl, by decide +kernel, by decide +kernel⟩
theorem scFre : FnScope ["instance", "capacity", "demand"] ["instance"] (defScope sFre) := ⟨rfl, rfl, rfl, by decide +kernel, rfl, by decide +kernel, by decide +kernel⟩
theorem scCla : FnScope ["instance", "post", "places"] ["instance"] (defScope sCla) := ⟨rfl, rfl, rfl, by decide +kernel, rfl, by decide +kernel, by decide +kernel⟩
theorem scCro : FnScope ["instance", "post", "excess"] ["instance"] (defScope sCro) := ⟨rfl, rfl, rfl, by decide +kernel, rfl, by decide +kernel, by decide +kernel⟩
theorem scRes : FnScope ["instance", "group", "posts", "claimed", "option"] ["instance", "group"] (defScope sRes) := ⟨rfl, rfl, rfl, by decide +kernel, rfl, by decide +kernel, by decide +kernel⟩
/-! the mathematics -/
def optV (ps : List Int) (k : Nat) : V := match ps[k]? with | some p => .int p | none => .non
def dAdd (ls : List Int) (g : Gp) : List Int := match g.1 with | [] => ls | p :: _ => addAt ls p g.2
def demOf (n : Nat) (gs : List Gp) : List Int := gs.foldl dAdd (zeros n)
theorem dAdd_len (ls : List Int) (g : Gp) : (dAdd ls g).length = ls.length := by
  unfold dAdd; split
  · rfl
  · exact addAt_len ..
theorem demOf_len (n : Nat) (gs : List Gp) : (demOf n gs).length = n := by
  unfold demOf
  suffices h : ∀ ls : List Int, (gs.foldl dAdd ls).length = ls.length by rw [h]; simp [zeros]
  intro ls
  induction gs generalizing ls with
  | nil => rfl
  | cons g gs ih => rw [List.foldl_cons, ih, dAdd_len]
theorem demOf_snoc {n : Nat} {gs : List Gp} {i : Nat} {g : Gp} (h : gs[i]? = some g) : demOf n (gs.take (i + 1)) = dAdd (demOf n (gs.take i)) g := by
  unfold demOf
  rw [take_snoc h, List.foldl_append]; rfl
def mx (j : Int) : Int := if j > 0 then j else 0
def excOf (cs ds : List Int) : List Int := (cs.zip ds).map fun q => mx (q.2 - q.1)
def freOf (cs ds : List Int) : List Int := (cs.zip ds).map fun q => mx (q.1 - q.2)
def sel (f : Int → Bool) (ls : List Int) (n : Nat) : List Int := ((List.range n).filter fun i => f (ls.getD i 0)).map fun (i : Nat) => (i : Int)
theorem sel_succ (f : Int → Bool) (ls : List Int) {n : Nat} {x : Int} (h : ls[n]? = some x) : sel f ls (n + 1) = sel f ls n ++ (if f x then [(n : Int)] else []) := by
  unfold sel
  rw [List.range_succ, List.filter_append, List.map_append]
  have e : ls.getD n 0 = x := by rw [List.getD_eq_getElem?_getD, h]; rfl
  simp only [List.filter_cons, List.filter_nil, e]
  cases f x <;> rfl
theorem sel_len (f : Int → Bool) (ls : List Int) (n : Nat) : (sel f ls n).length ≤ n := by
  unfold sel
  rw [List.length_map]
  exact Nat.le_trans (List.length_filter_le ..) (by simp)
def isFree (ps cl : List Int) (k : Nat) : Bool := !(cl.contains (ps.getD k 0))
def resOf (ps cl : List Int) : Nat := ((List.range' 1 (ps.length - 1)).find? (isFree ps cl)).getD ps.length
theorem inV_ints (x : Int) : ∀ cl : List Int, inV (.int x) (cl.map V.int) = cl.contains x
  | [] => rfl
  | c :: cl => by
    show ((c == x) || inV (.int x) (cl.map V.int)) = _
    rw [inV_ints x cl, List.contains_cons]
    congr 1
    exact Bool.beq_comm
theorem flat_ints (cl : List Int) : (cl.map V.int).all flatV = true := by
  induction cl with
  | nil => rfl
  | cons c cl ih => simpa [flatV] using ih
section
variable {P : Program} {w : World} {K : PySem.W.Frag} {mg : Str → Option Value} {base : Heap}
theorem grp_at {H : Hp} {xs : List V} {gs : List Gp} (h : DpAll K H xs (gs.map dGrp)) {i : Nat} {g : Gp} (hg : gs[i]? = some g) : ∃ a p, xs[i]? = some (.ref a) ∧ SqT K H a [.ref p, .int g.2] ∧ SqT K H p (g.1.map V.int) := by
  have hl := DpAll.len h
  rw [List.length_map] at hl
  have hi : i < xs.length := by rw [hl]; exact (List.getElem?_eq_some_iff.mp hg).1
  obtain ⟨d, hd, hx⟩ := DpAll.at h (List.getElem?_eq_getElem hi)
  rw [List.getElem?_map, hg] at hd
  cases hd
  obtain ⟨a, p, e, h1, h2⟩ := grp_ref hx
  exact ⟨a, p, by rw [List.getElem?_eq_getElem hi, e], h1, h2⟩
def spOpt (K : PySem.W.Frag) : Sp := fun vs H Q _ => ∃ (i : Addr) (gi k : Nat) (cs : List Int) (gs : List Gp) (g : Gp), vs = [.ref i, .int gi, .int k] ∧ Dp K H (.ref i) (dInst cs gs) ∧ gs[gi]? = some g ∧ k ≤ g.1.length ∧ Q (optV g.1 k) H
theorem ok_opt {f : Addr} {fd : FuncData} {k : Nat} (F : Fun K "option_post" "option_post" sOpt f fd) (ml : mg "len" = none) : FnOk P w K mg base CX0 (k + 1) f fd ["instance", "group", "option"] (spOpt K) := by
  refine F.ok scOpt (fun vs H Q E h => ?_) (fun cdv A outer s H vs Q E hr h => ?_)
  · obtain ⟨i, gi, k, cs, gs, g, rfl, _⟩ := h; rfl
  · obtain ⟨i, gi, k, cs, gs, g, rfl, hI, hg, hk, q⟩ := h
    refine ⟨_, pss_cons (ps_set (i := 3) scOpt.nd rfl (.inl rfl) (pe_ix ix_tup (pe_ix ix_tup (pe_ix ix_tup (pv 0) pe_int (fun _ _ => rfl)) (pv 1) (fun _ _ => rfl)) pe_int (fun _ _ => rfl)))
      (pss_cons (ps_if (pt_cmpR op_eq (pv 2) (pe_callB call_len_seq (by rfl) ml PySem.boot_len (pa_cons (pv 3) pa_nil)) (nomark _)) (pss_one (ps_ret pe_non)) pss_nil)
      (pss_one (ps_ret (pe_ix ix_tup (pv 3) (pv 2) (fun _ _ => rfl))))), ?_⟩
    obtain ⟨_, ca, ga, xs, e, hi, hc, hgt, hgs⟩ := inst_open hI
    cases e
    obtain ⟨gA, pA, hx, hG, hP⟩ := grp_at hgs hg
    refine ⟨.ref i, rfl, i, _, 1, .ref ga, rfl, rfl, hi, atI_nat (j := 1) rfl, .int gi, rfl, ga, _, _, _, rfl, rfl, hgt, atI_nat hx, gA, _, 0, .ref pA, rfl, rfl, hG, atI_nat (j := 0) rfl, ?_⟩
    refine ⟨.int k, rfl, .ref pA, rfl, pA, _, rfl, .inr hP, rfl, _, rfl, ite2 (fun h1 => ?_) (fun h1 => ?_)⟩
    · have e : (k : Int) = ((g.1.map V.int).length : Nat) := V.int.inj (of_decide_eq_true h1)
      rw [List.length_map] at e
      have hk2 : k = g.1.length := by omega
      have : optV g.1 k = .non := by unfold optV; rw [List.getElem?_eq_none (by omega)]
      rw [this] at q
      exact q
    · have hk2 : k < g.1.length := by
        rcases Nat.lt_or_eq_of_le hk with h | h
        · exact h
        · exact absurd (decide_eq_true (by rw [h, List.length_map])) h1
      have : optV g.1 k = .int g.1[k] := by unfold optV; rw [List.getElem?_eq_getElem hk2]
      rw [this] at q
      exact ⟨.ref pA, rfl, .int k, rfl, pA, _, _, _, rfl, rfl, hP, atI_nat (by rw [List.getElem?_map, List.getElem?_eq_getElem hk2]; rfl), q⟩
def spVec (K : PySem.W.Frag) (r : List Int → List Gp → List Int) : Sp := fun vs H Q _ => ∃ (i : Addr) (cs : List Int) (gs : List Gp), vs = [.ref i] ∧ Dp K H (.ref i) (dInst cs gs) ∧ InsOk cs gs ∧
  ∀ H' p, Same H H' → Dp K H' (.ref p) (dI (r cs gs)) → Q (.ref p) H'
def rDem (cs : List Int) (gs : List Gp) : List Int := demOf cs.length gs
def rExc (cs : List Int) (gs : List Gp) : List Int := excOf cs (rDem cs gs)
def rFre (cs : List Int) (gs : List Gp) : List Int := freOf cs (rDem cs gs)
def rCla (cs : List Int) (gs : List Gp) : List Int := sel (fun x => decide (x = 0)) (rFre cs gs) cs.length
def rCro (cs : List Int) (gs : List Gp) : List Int := sel (fun x => decide (0 < x)) (rExc cs gs) cs.length
theorem rDem_len (cs : List Int) (gs : List Gp) : (rDem cs gs).length = cs.length := demOf_len ..
theorem rExc_len (cs : List Int) (gs : List Gp) : (rExc cs gs).length = cs.length := by simp [rExc, excOf, rDem_len]
theorem rFre_len (cs : List Int) (gs : List Gp) : (rFre cs gs).length = cs.length := by simp [rFre, freOf, rDem_len]
set_option maxHeartbeats 2000000 in
theorem ok_dem {f : Addr} {fd : FuncData} {k : Nat} (F : Fun K "demands" "demands" sDem f fd) (ml : mg "len" = none) (mt : mg "tuple" = none) : FnOk P w K mg base CX0 (k + 1) f fd ["instance"] (spVec K rDem) := by
  refine F.ok scDem (fun vs H Q E h => ?_) (fun cdv A outer s H vs Q E hr h => ?_)
  · obtain ⟨i, cs, gs, rfl, _⟩ := h; rfl
  · obtain ⟨i, cs, gs, rfl, hI, ok, q⟩ := h
    refine ⟨_, pss_cons (ps_set (i := 1) scDem.nd rfl (.inl rfl) (pe_op op_rep (pe_lst (pa_cons pe_int pa_nil)) (pe_callB call_len_seq (by rfl) ml PySem.boot_len (pa_cons (pe_ix ix_tup (pv 0) pe_int (fun _ _ => rfl)) pa_nil))))
      (pss_cons (ps_for PassesOwn.never rfl (pi_tup (pe_ix ix_tup (pv 0) pe_int (fun _ _ => rfl)))
          (pg_tup rfl (pgs_cons (pg_name (i := 2) scDem.nd rfl (.inl rfl)) (pgs_cons (pg_name (i := 3) scDem.nd rfl (.inl rfl)) pgs_nil)))
          (pss_one (ps_if (pt_cmpR op_gt (pe_callB call_len_seq (by rfl) ml PySem.boot_len (pa_cons (pv 2) pa_nil)) pe_int (nomark _))
            (pss_one (ps_augS (pv 1) (pe_ix ix_tup (pv 2) pe_int (fun _ _ => rfl)) get_list (pv 3) ip_add set_list)) pss_nil)))
      (pss_one (ps_ret (pe_callTy call_tuple_of (by rfl) mt (by decide +kernel) (pa_cons (pv 1) pa_nil))))), ?_⟩
    obtain ⟨_, ca, ga, xs, e, hi, hc, hg, hgs⟩ := inst_open hI
    cases e
    have h6 := ok.c6
    refine ⟨by decide, fun p0 n0 => ⟨.ref i, rfl, i, _, 0, .ref ca, rfl, rfl, (TupK.new n0).sq hi, atI_nat (j := 0) rfl, ca, _, rfl, .inr ((TupK.new n0).sq hc), p0, _, _, rfl, rfl, upd_same, by omega, ?_, ?_, fun L nL => ?_⟩⟩
    · rw [List.length_map]; omega
    · rw [List.length_map]; show 1 * _ ≤ sizeLine; have := small (n := cs.length) (by omega); simp; omega
    have fL : H L = none := freeOf nL
    have s1 : Same H (upd (upd H p0 (.lst [.int 0])) L (.lst (List.replicate ((List.map V.int cs).length : Int).toNat [V.int 0]).flatten)) := samePut (sameNew n0) fL
    refine ⟨.ref i, rfl, i, _, 1, .ref ga, rfl, rfl, (TupK.of s1).sq hi, atI_nat (j := 1) rfl, ga, rfl, ⟨_, (TupK.of s1).sq hg⟩, for_it (walk_tup (K := K) (a := ga) (xs := xs))
      (fun i' σ H2 => ∃ y2 y3, σ = [some (.ref i), some (.ref L), y2, y3] ∧ Same H H2 ∧ H2 L = some (.lst ((demOf cs.length (gs.take i')).map V.int)))
      ⟨none, none, rfl, s1, ?_⟩ ?_ ?_ ?_⟩
    · rw [upd_same, List.length_map, Int.toNat_natCast, zeros_V]; rfl
    · rintro i' σ H2 _ ⟨y2, y3, rfl, s2, e2⟩
      exact (TupK.of s2).sq hg
    · rintro i' v σ H2 H3 hlt ⟨y2, y3, rfl, s2, e2⟩ ⟨rfl, hx⟩
      obtain ⟨d, hd, hxd⟩ := DpAll.at hgs hx
      rw [List.getElem?_map] at hd
      obtain ⟨g, hgi, rfl⟩ := Option.map_eq_some_iff.mp hd
      obtain ⟨gA, pA, rfl, hG, hP⟩ := grp_ref hxd
      have tk := TupK.of s2
      have hsn := demOf_snoc (n := cs.length) hgi
      have hgp := (ok.gp g (List.mem_of_getElem? hgi)).2.1
      have hdl := demOf_len cs.length (gs.take i')
      generalize hcur : demOf cs.length (gs.take i') = cur at e2 hsn hdl
      refine ⟨gA, _, rfl, tk.sq hG, rfl, _, _, rfl, _, _, rfl, rfl, ?_⟩
      refine ⟨.ref pA, rfl, pA, _, rfl, .inr (tk.sq hP), _, _, rfl, rfl, _, rfl, ite2 (fun h1 => ?_) (fun h1 => ?_)⟩
      · obtain ⟨pp, ps, hps⟩ : ∃ pp ps, g.1 = pp :: ps := by
          cases hgg : g.1 with
          | nil => rw [hgg] at h1; exact absurd (of_decide_eq_true h1) (by simp)
          | cons a b => exact ⟨a, b, rfl⟩
        have hpr := hgp pp (by rw [hps]; simp)
        obtain ⟨pn, rfl⟩ : ∃ pn : Nat, pp = pn := ⟨pp.toNat, by omega⟩
        have hpl : pn < cur.length := by omega
        refine ⟨.ref L, rfl, .ref pA, rfl, pA, _, 0, .int pn, rfl, rfl, tk.sq hP, atI_nat (j := 0) (by rw [hps]; rfl), L, _, pn, .int cur[pn], rfl, rfl, SqL.of e2, by rw [List.getElem?_map, List.getElem?_eq_getElem hpl]; rfl, .int g.2, rfl, _, _, rfl, rfl, L, _, _, pn, rfl, rfl, e2, ixN_nat (by rw [List.length_map]; exact hpl), ?_⟩
        refine ⟨_, _, rfl, samePut s2 fL, ?_⟩
        rw [upd_same, hsn]
        unfold dAdd
        rw [hps]
        show _ = some (HO.lst ((addAt cur pn g.2).map V.int))
        unfold addAt
        rw [Int.toNat_natCast, List.getD_eq_getElem?_getD, List.getElem?_eq_getElem hpl, List.map_set]
        rfl
      · have hge : g.1 = [] := by
          cases hgg : g.1 with
          | nil => rfl
          | cons a b => rw [hgg] at h1; exact absurd (decide_eq_true (by simp)) h1
        refine ⟨_, _, rfl, s2, ?_⟩
        rw [e2, hsn]
        unfold dAdd
        rw [hge]
    · rintro σ H2 ⟨y2, y3, rfl, s2, e2⟩
      rw [DpAll.len hgs, List.length_map, List.take_length] at e2
      exact ⟨.ref L, rfl, L, _, rfl, .inl ⟨SqL.of e2, fun p np => q _ _ (s2.trans (sameNew np)) (dI_sq (SqT.of upd_same))⟩⟩
end
end Pv

namespace Pv
open PySem PySem.Spec PyProof.Rows L2
section
variable {P : Program} {w : World} {K : PySem.W.Frag} {mg : Str → Option Value} {base : Heap}
theorem ok_exc {f fM : Addr} {fd fdM : FuncData} {k : Nat} (F : Fun K "excesses" "excesses" sExc f fd)
    (FM : Fun K "demands" "demands" sDem fM fdM) (bM : Binds K fdM ["instance"] []) (gM : mg "demands" = some (.ref fM)) (GM : FnOk P w K mg base CX0 1 fM fdM ["instance"] (spVec K rDem))
    (mt : mg "tuple" = none) (mz : mg "zip" = none) (mm : mg "max" = none) : FnOk P w K mg base CX0 (1 + k + 1) f fd ["instance"] (spVec K rExc) := by
  refine F.ok scExc (fun vs H Q E h => ?_) (fun cdv A outer s H vs Q E hr h => ?_)
  · obtain ⟨i, cs, gs, rfl, _⟩ := h; rfl
  · obtain ⟨i, cs, gs, rfl, hI, ok, q⟩ := h
    refine ⟨_, pss_one (ps_ret (pe_callTy call_tuple_of (by rfl) mt (by decide +kernel) (pa_cons
        (pe_lc (own := [("capacity", 1), ("demand", 2)]) (g := gTup K 2 (gCons (gName 1) (gCons (gName 2) gNil))) (tt := tYes) rfl scExc.nd
          (RZ.pi_zipA (by rfl) mz (pa_cons (pe_ix ix_tup (pv 0) pe_int (fun _ _ => rfl)) (pa_cons (pe_call GM (hr.mono (by omega)) (by rfl) gM FM.kp bM .nil pass0 (pa_cons (pv 0) pa_nil)) pa_nil))) (blkOk_by (N := ["instance", "capacity", "demand"]) (sc := defScope sExc) (by decide +kernel))
          (fun _ _ _ _ _ => pg_tup rfl (pgs_cons (pg_name (i := 1) scExc.nd rfl (.inl rfl)) (pgs_cons (pg_name (i := 2) scExc.nd rfl (.inl rfl)) pgs_nil))) (fun _ _ _ _ _ => pts_nil)
          (fun _ _ _ _ _ => pe_callB (call_max2 rfl) (by rfl) mm (by decide +kernel) (pa_cons pe_int (pa_cons (pe_op op_sub (pv 2) (pv 1)) pa_nil)))) pa_nil))), ?_⟩
    obtain ⟨_, ca, ga, xs, e, hi, hc, hg, hgs⟩ := inst_open hI
    cases e
    have h6 := ok.c6
    refine ⟨.ref i, rfl, i, _, 0, .ref ca, rfl, rfl, hi, atI_nat (j := 0) rfl, .ref i, rfl, i, cs, gs, rfl, hI, ok, fun H1 dm s1 hdm => ?_⟩
    have hD := sq_dI hdm
    have hc1 := (TupK.of s1).sq hc
    refine ⟨ca, dm, _, _, rfl, .inr ⟨hc1, hD, fun D nD => lc_it (walk_zipT (K := K) (a := ca) (b := dm) (xs := cs.map V.int) (ys := (rDem cs gs).map V.int) rfl)
      (fun j H2 => Same H1 H2 ∧ H2 D = some (.lst ((((cs.take j).zip ((rDem cs gs).take j)).map (fun q => mx (q.2 - q.1))).map V.int))) ⟨sameNew nD, upd_same⟩ (fun j H2 _ h2 => ⟨(TupK.of h2.1).sq hc1, (TupK.of h2.1).sq hD⟩) ?_ ?_⟩⟩
    · rintro j v H2 H3 hlt ⟨s2, e2⟩ ⟨T, x, y, rfl, nT, rfl, hx, hy⟩
      have hx' : (cs.map V.int)[j]? = some x := hx
      have hy' : ((rDem cs gs).map V.int)[j]? = some y := hy
      rw [List.getElem?_map] at hx' hy'
      obtain ⟨c, hcj, rfl⟩ := Option.map_eq_some_iff.mp hx'
      obtain ⟨d, hdj, rfl⟩ := Option.map_eq_some_iff.mp hy'
      have hjl : j < cs.length := (List.getElem?_eq_some_iff.mp hcj).1
      refine ⟨T, _, rfl, SqT.of upd_same, rfl, _, _, rfl, _, _, rfl, rfl, rfl, .int d, rfl, .int c, rfl, _, _, rfl, rfl, _, _, rfl, _, upNew nT e2, ?_, samePut (s2.trans (sameNew nT)) nD, ?_⟩
      · rw [List.length_map, List.length_map, List.length_zip, List.length_take, List.length_take]; exact small (by omega)
      · rw [upd_same, zip_snoc hcj hdj, List.map_append, List.map_append]; rfl
    · rintro H2 ⟨s2, e2⟩
      rw [List.length_map, List.length_map, zip_take, List.take_of_length_le (by rw [List.length_zip]; exact Nat.le_refl _)] at e2
      exact ⟨D, _, rfl, .inl ⟨SqL.of e2, fun p np => q _ _ ((s1.trans s2).trans (sameNew np)) (dI_sq (SqT.of upd_same))⟩⟩
theorem ok_fre {f fM : Addr} {fd fdM : FuncData} {k : Nat} (F : Fun K "free_places" "free_places" sFre f fd)
    (FM : Fun K "demands" "demands" sDem fM fdM) (bM : Binds K fdM ["instance"] []) (gM : mg "demands" = some (.ref fM)) (GM : FnOk P w K mg base CX0 1 fM fdM ["instance"] (spVec K rDem))
    (mt : mg "tuple" = none) (mz : mg "zip" = none) (mm : mg "max" = none) : FnOk P w K mg base CX0 (1 + k + 1) f fd ["instance"] (spVec K rFre) := by
  refine F.ok scFre (fun vs H Q E h => ?_) (fun cdv A outer s H vs Q E hr h => ?_)
  · obtain ⟨i, cs, gs, rfl, _⟩ := h; rfl
  · obtain ⟨i, cs, gs, rfl, hI, ok, q⟩ := h
    refine ⟨_, pss_one (ps_ret (pe_callTy call_tuple_of (by rfl) mt (by decide +kernel) (pa_cons
        (pe_lc (own := [("capacity", 1), ("demand", 2)]) (g := gTup K 2 (gCons (gName 1) (gCons (gName 2) gNil))) (tt := tYes) rfl scFre.nd
          (RZ.pi_zipA (by rfl) mz (pa_cons (pe_ix ix_tup (pv 0) pe_int (fun _ _ => rfl)) (pa_cons (pe_call GM (hr.mono (by omega)) (by rfl) gM FM.kp bM .nil pass0 (pa_cons (pv 0) pa_nil)) pa_nil))) (blkOk_by (N := ["instance", "capacity", "demand"]) (sc := defScope sFre) (by decide +kernel))
          (fun _ _ _ _ _ => pg_tup rfl (pgs_cons (pg_name (i := 1) scFre.nd rfl (.inl rfl)) (pgs_cons (pg_name (i := 2) scFre.nd rfl (.inl rfl)) pgs_nil))) (fun _ _ _ _ _ => pts_nil)
          (fun _ _ _ _ _ => pe_callB (call_max2 rfl) (by rfl) mm (by decide +kernel) (pa_cons pe_int (pa_cons (pe_op op_sub (pv 1) (pv 2)) pa_nil)))) pa_nil))), ?_⟩
    obtain ⟨_, ca, ga, xs, e, hi, hc, hg, hgs⟩ := inst_open hI
    cases e
    have h6 := ok.c6
    refine ⟨.ref i, rfl, i, _, 0, .ref ca, rfl, rfl, hi, atI_nat (j := 0) rfl, .ref i, rfl, i, cs, gs, rfl, hI, ok, fun H1 dm s1 hdm => ?_⟩
    have hD := sq_dI hdm
    have hc1 := (TupK.of s1).sq hc
    refine ⟨ca, dm, _, _, rfl, .inr ⟨hc1, hD, fun D nD => lc_it (walk_zipT (K := K) (a := ca) (b := dm) (xs := cs.map V.int) (ys := (rDem cs gs).map V.int) rfl)
      (fun j H2 => Same H1 H2 ∧ H2 D = some (.lst ((((cs.take j).zip ((rDem cs gs).take j)).map (fun q => mx (q.1 - q.2))).map V.int))) ⟨sameNew nD, upd_same⟩ (fun j H2 _ h2 => ⟨(TupK.of h2.1).sq hc1, (TupK.of h2.1).sq hD⟩) ?_ ?_⟩⟩
    · rintro j v H2 H3 hlt ⟨s2, e2⟩ ⟨T, x, y, rfl, nT, rfl, hx, hy⟩
      have hx' : (cs.map V.int)[j]? = some x := hx
      have hy' : ((rDem cs gs).map V.int)[j]? = some y := hy
      rw [List.getElem?_map] at hx' hy'
      obtain ⟨c, hcj, rfl⟩ := Option.map_eq_some_iff.mp hx'
      obtain ⟨d, hdj, rfl⟩ := Option.map_eq_some_iff.mp hy'
      have hjl : j < cs.length := (List.getElem?_eq_some_iff.mp hcj).1
      refine ⟨T, _, rfl, SqT.of upd_same, rfl, _, _, rfl, _, _, rfl, rfl, rfl, .int c, rfl, .int d, rfl, _, _, rfl, rfl, _, _, rfl, _, upNew nT e2, ?_, samePut (s2.trans (sameNew nT)) nD, ?_⟩
      · rw [List.length_map, List.length_map, List.length_zip, List.length_take, List.length_take]; exact small (by omega)
      · rw [upd_same, zip_snoc hcj hdj, List.map_append, List.map_append]; rfl
    · rintro H2 ⟨s2, e2⟩
      rw [List.length_map, List.length_map, zip_take, List.take_of_length_le (by rw [List.length_zip]; exact Nat.le_refl _)] at e2
      exact ⟨D, _, rfl, .inl ⟨SqL.of e2, fun p np => q _ _ ((s1.trans s2).trans (sameNew np)) (dI_sq (SqT.of upd_same))⟩⟩
theorem ok_cla {f fM : Addr} {fd fdM : FuncData} {k : Nat} (F : Fun K "claimed_posts" "claimed_posts" sCla f fd)
    (FM : Fun K "free_places" "free_places" sFre fM fdM) (bM : Binds K fdM ["instance"] []) (gM : mg "free_places" = some (.ref fM)) (GM : FnOk P w K mg base CX0 2 fM fdM ["instance"] (spVec K rFre))
    (mt : mg "tuple" = none) (me : mg "enumerate" = none) : FnOk P w K mg base CX0 (2 + k + 1) f fd ["instance"] (spVec K rCla) := by
  refine F.ok scCla (fun vs H Q E h => ?_) (fun cdv A outer s H vs Q E hr h => ?_)
  · obtain ⟨i, cs, gs, rfl, _⟩ := h; rfl
  · obtain ⟨i, cs, gs, rfl, hI, ok, q⟩ := h
    refine ⟨_, pss_one (ps_ret (pe_callTy call_tuple_of (by rfl) mt (by decide +kernel) (pa_cons
        (pe_lc (own := [("post", 1), ("places", 2)]) (g := gTup K 2 (gCons (gName 1) (gCons (gName 2) gNil))) (tt := tTest (tOp rEq (tVar 2) (tC (.int 0)))) (te := tVar 1) rfl scCla.nd
          (pi_enumT (by rfl) me (pa_cons (pe_call GM (hr.mono (by omega)) (by rfl) gM FM.kp bM .nil pass0 (pa_cons (pv 0) pa_nil)) pa_nil)) (blkOk_by (N := ["instance", "post", "places"]) (sc := defScope sCla) (by decide +kernel))
          (fun _ _ _ _ _ => pg_tup rfl (pgs_cons (pg_name (i := 1) scCla.nd rfl (.inl rfl)) (pgs_cons (pg_name (i := 2) scCla.nd rfl (.inl rfl)) pgs_nil)))
          (fun _ _ _ _ _ => pts_one (pt_cmpR op_eq (pv 2) pe_int (nomark _)))
          (fun _ _ _ _ _ => pv 1)) pa_nil))), ?_⟩
    have h6 := ok.c6
    refine ⟨.ref i, rfl, i, cs, gs, rfl, hI, ok, fun H1 dm s1 hdm => ?_⟩
    have hD := sq_dI hdm
    refine ⟨dm, _, rfl, hD, fun D nD => lc_it (walk_enumT (K := K) (a := dm) (xs := (rFre cs gs).map V.int))
      (fun j H2 => Same H1 H2 ∧ H2 D = some (.lst ((sel (fun x => decide (x = 0)) (rFre cs gs) j).map V.int))) ⟨sameNew nD, upd_same⟩ (fun j H2 _ h2 => (TupK.of h2.1).sq hD) ?_ ?_⟩
    · rintro j v H2 H3 hlt ⟨s2, e2⟩ ⟨T, x, y, rfl, nT, rfl, hx, hy⟩
      have hx' : some (V.int (j : Nat)) = some x := hx
      cases hx'
      have hy' : ((rFre cs gs).map V.int)[j]? = some y := hy
      rw [List.getElem?_map] at hy'
      obtain ⟨d, hdj, rfl⟩ := Option.map_eq_some_iff.mp hy'
      have hjl : j < cs.length := by have := (List.getElem?_eq_some_iff.mp hdj).1; rw [rFre_len] at this; exact this
      have hs := sel_succ (fun x => decide (x = 0)) (rFre cs gs) hdj
      have e3 := upNew (o := .tup [.int (j : Nat), .int d]) nT e2
      have s3 := s2.trans (sameNew (o := .tup [.int (j : Nat), .int d]) nT)
      refine ⟨T, _, rfl, SqT.of upd_same, rfl, _, _, rfl, _, _, rfl, rfl, rfl, .int d, rfl, rfl, _, rfl, ite2 (fun h1 => ?_) (fun h1 => ?_)⟩
      · have h0 : d = 0 := V.int.inj (of_decide_eq_true h1)
        refine ⟨.int (j : Nat), rfl, _, e3, ?_, samePut s3 nD, ?_⟩
        · rw [List.length_map]; exact small (Nat.le_trans (sel_len ..) (by omega))
        · rw [upd_same, hs, h0, List.map_append]; rfl
      · have h0 : d ≠ 0 := fun z => h1 (decide_eq_true (by rw [z]))
        refine ⟨s3, ?_⟩
        rw [e3, hs, if_neg (by simpa using h0), List.append_nil]
    · rintro H2 ⟨s2, e2⟩
      rw [List.length_map, rFre_len] at e2
      exact ⟨D, _, rfl, .inl ⟨SqL.of e2, fun p np => q _ _ ((s1.trans s2).trans (sameNew np)) (dI_sq (SqT.of upd_same))⟩⟩
theorem ok_cro {f fM : Addr} {fd fdM : FuncData} {k : Nat} (F : Fun K "crowded_posts" "crowded_posts" sCro f fd)
    (FM : Fun K "excesses" "excesses" sExc fM fdM) (bM : Binds K fdM ["instance"] []) (gM : mg "excesses" = some (.ref fM)) (GM : FnOk P w K mg base CX0 2 fM fdM ["instance"] (spVec K rExc))
    (mt : mg "tuple" = none) (me : mg "enumerate" = none) : FnOk P w K mg base CX0 (2 + k + 1) f fd ["instance"] (spVec K rCro) := by
  refine F.ok scCro (fun vs H Q E h => ?_) (fun cdv A outer s H vs Q E hr h => ?_)
  · obtain ⟨i, cs, gs, rfl, _⟩ := h; rfl
  · obtain ⟨i, cs, gs, rfl, hI, ok, q⟩ := h
    refine ⟨_, pss_one (ps_ret (pe_callTy call_tuple_of (by rfl) mt (by decide +kernel) (pa_cons
        (pe_lc (own := [("post", 1), ("excess", 2)]) (g := gTup K 2 (gCons (gName 1) (gCons (gName 2) gNil))) (tt := tTest (tOp (rI0 fun i j => .bl (decide (j < i))) (tVar 2) (tC (.int 0)))) (te := tVar 1) rfl scCro.nd
          (pi_enumT (by rfl) me (pa_cons (pe_call GM (hr.mono (by omega)) (by rfl) gM FM.kp bM .nil pass0 (pa_cons (pv 0) pa_nil)) pa_nil)) (blkOk_by (N := ["instance", "post", "excess"]) (sc := defScope sCro) (by decide +kernel))
          (fun _ _ _ _ _ => pg_tup rfl (pgs_cons (pg_name (i := 1) scCro.nd rfl (.inl rfl)) (pgs_cons (pg_name (i := 2) scCro.nd rfl (.inl rfl)) pgs_nil)))
          (fun _ _ _ _ _ => pts_one (pt_cmpR op_gt (pv 2) pe_int (nomark _)))
          (fun _ _ _ _ _ => pv 1)) pa_nil))), ?_⟩
    have h6 := ok.c6
    refine ⟨.ref i, rfl, i, cs, gs, rfl, hI, ok, fun H1 dm s1 hdm => ?_⟩
    have hD := sq_dI hdm
    refine ⟨dm, _, rfl, hD, fun D nD => lc_it (walk_enumT (K := K) (a := dm) (xs := (rExc cs gs).map V.int))
      (fun j H2 => Same H1 H2 ∧ H2 D = some (.lst ((sel (fun x => decide (0 < x)) (rExc cs gs) j).map V.int))) ⟨sameNew nD, upd_same⟩ (fun j H2 _ h2 => (TupK.of h2.1).sq hD) ?_ ?_⟩
    · rintro j v H2 H3 hlt ⟨s2, e2⟩ ⟨T, x, y, rfl, nT, rfl, hx, hy⟩
      have hx' : some (V.int (j : Nat)) = some x := hx
      cases hx'
      have hy' : ((rExc cs gs).map V.int)[j]? = some y := hy
      rw [List.getElem?_map] at hy'
      obtain ⟨d, hdj, rfl⟩ := Option.map_eq_some_iff.mp hy'
      have hjl : j < cs.length := by have := (List.getElem?_eq_some_iff.mp hdj).1; rw [rExc_len] at this; exact this
      have hs := sel_succ (fun x => decide (0 < x)) (rExc cs gs) hdj
      have e3 := upNew (o := .tup [.int (j : Nat), .int d]) nT e2
      have s3 := s2.trans (sameNew (o := .tup [.int (j : Nat), .int d]) nT)
      refine ⟨T, _, rfl, SqT.of upd_same, rfl, _, _, rfl, _, _, rfl, rfl, rfl, .int d, rfl, _, _, rfl, rfl, _, rfl, ite2 (fun h1 => ?_) (fun h1 => ?_)⟩
      · have h0 : 0 < d := of_decide_eq_true h1
        refine ⟨.int (j : Nat), rfl, _, e3, ?_, samePut s3 nD, ?_⟩
        · rw [List.length_map]; exact small (Nat.le_trans (sel_len ..) (by omega))
        · rw [upd_same, hs, if_pos (by simpa using h0), List.map_append]; rfl
      · have h0 : ¬ 0 < d := fun z => h1 (decide_eq_true z)
        refine ⟨s3, ?_⟩
        rw [e3, hs, if_neg (by simpa using h0), List.append_nil]
    · rintro H2 ⟨s2, e2⟩
      rw [List.length_map, rExc_len] at e2
      exact ⟨D, _, rfl, .inl ⟨SqL.of e2, fun p np => q _ _ ((s1.trans s2).trans (sameNew np)) (dI_sq (SqT.of upd_same))⟩⟩
def spRes (K : PySem.W.Frag) : Sp := fun vs H Q _ => ∃ (i : Addr) (gi : Nat) (cs : List Int) (gs : List Gp) (g : Gp), vs = [.ref i, .int gi] ∧ Dp K H (.ref i) (dInst cs gs) ∧ InsOk cs gs ∧ gs[gi]? = some g ∧
  ∀ H', Same H H' → Q (.int (resOf g.1 (rCla cs gs))) H'
theorem ok_res {f fM : Addr} {fd fdM : FuncData} {k : Nat} (F : Fun K "reserve_option" "reserve_option" sRes f fd)
    (FM : Fun K "claimed_posts" "claimed_posts" sCla fM fdM) (bM : Binds K fdM ["instance"] []) (gM : mg "claimed_posts" = some (.ref fM)) (GM : FnOk P w K mg base CX0 3 fM fdM ["instance"] (spVec K rCla))
    (mr : mg "range" = none) (ml : mg "len" = none) : FnOk P w K mg base CX0 (3 + k + 1) f fd ["instance", "group"] (spRes K) := by
  refine F.ok scRes (fun vs H Q E h => ?_) (fun cdv A outer s H vs Q E hr h => ?_)
  · obtain ⟨i, gi, cs, gs, g, rfl, _⟩ := h; rfl
  · obtain ⟨i, gi, cs, gs, g, rfl, hI, ok, hg, q⟩ := h
    refine ⟨_, pss_cons (ps_set (i := 2) scRes.nd rfl (.inl rfl) (pe_ix ix_tup (pe_ix ix_tup (pe_ix ix_tup (pv 0) pe_int (fun _ _ => rfl)) (pv 1) (fun _ _ => rfl)) pe_int (fun _ _ => rfl)))
      (pss_cons (ps_set (i := 3) scRes.nd rfl (.inl rfl) (pe_call GM (hr.mono (by omega)) (by rfl) gM FM.kp bM .nil pass0 (pa_cons (pv 0) pa_nil)))
      (pss_cons (ps_for PassesOwn.never rfl (pi_range2 (by rfl) mr (pa_cons pe_int (pa_cons (pe_callB call_len_seq (by rfl) ml PySem.boot_len (pa_cons (pv 2) pa_nil)) pa_nil))) (pg_name (i := 4) scRes.nd rfl (.inl rfl))
        (pss_one (ps_if (pt_cmpR op_notIn_seq (pe_ix ix_tup (pv 2) (pv 4) (fun _ _ => rfl)) (pv 3) rfl) (pss_one (ps_ret (pv 4))) pss_nil)))
      (pss_one (ps_ret (pe_callB call_len_seq (by rfl) ml PySem.boot_len (pa_cons (pv 2) pa_nil)))))), ?_⟩
    obtain ⟨_, ca, ga, xs, e, hi, hc, hgt, hgs⟩ := inst_open hI
    cases e
    obtain ⟨gA, pA, hx, hG, hP⟩ := grp_at hgs hg
    have hgl := (ok.gp g (List.mem_of_getElem? hg)).1
    refine ⟨.ref i, rfl, i, _, 1, .ref ga, rfl, rfl, hi, atI_nat (j := 1) rfl, .int gi, rfl, ga, _, _, _, rfl, rfl, hgt, atI_nat hx, gA, _, 0, .ref pA, rfl, rfl, hG, atI_nat (j := 0) rfl, ?_⟩
    refine ⟨.ref i, rfl, i, cs, gs, rfl, hI, ok, fun H1 cl s1 hcl => ?_⟩
    have hC := sq_dI hcl
    have hP1 := (TupK.of s1).sq hP
    refine ⟨.ref pA, rfl, pA, _, rfl, .inr hP1, 1, _, rfl, ⟨by omega, by omega, by omega, by rw [List.length_map]; omega⟩, for_it (walk_range (lo := 1) (n := (((List.map V.int g.1).length : Int) - 1).toNat))
      (fun j σ H2 => ∃ y4, σ = [some (.ref i), some (.int gi), some (.ref pA), some (.ref cl), y4] ∧ H2 = H1 ∧ ∀ k, 1 ≤ k → k < 1 + j → isFree g.1 (rCla cs gs) k = false)
      ⟨none, rfl, rfl, fun k h1 h2 => by omega⟩ (fun _ _ _ _ _ => trivial) ?_ ?_⟩
    · rintro j v σ H2 H3 hlt ⟨y4, rfl, rfl, hno⟩ ⟨rfl, rfl⟩
      rw [List.length_map] at hlt
      have hj1 : 1 + j < g.1.length := by omega
      have e1 : (1 : Int) + (j : Nat) = ((1 + j : Nat) : Int) := by omega
      have hpv : (g.1.map V.int)[1 + j]? = some (.int g.1[1 + j]) := by rw [List.getElem?_map, List.getElem?_eq_getElem hj1]; rfl
      dsimp only
      rw [e1]
      refine ⟨.ref pA, rfl, .int ((1 + j : Nat) : Int), rfl, pA, _, _, _, rfl, rfl, hP1, atI_nat hpv, .ref cl, rfl, cl, _, rfl, .inr hC, rfl, flat_ints _, _, rfl, ?_⟩
      have hfr : isFree g.1 (rCla cs gs) (1 + j) = !(inV (.int g.1[1 + j]) ((rCla cs gs).map V.int)) := by
        unfold isFree
        rw [inV_ints, List.getD_eq_getElem?_getD, List.getElem?_eq_getElem hj1]; rfl
      refine ite2 (fun h1 => ?_) (fun h1 => ?_)
      · have hf : isFree g.1 (rCla cs gs) (1 + j) = true := by rw [hfr]; exact h1
        have hr : resOf g.1 (rCla cs gs) = 1 + j := by
          unfold resOf
          have : (List.range' 1 (g.1.length - 1)).find? (isFree g.1 (rCla cs gs)) = some (1 + j) := by
            rw [List.find?_range'_eq_some]
            refine ⟨hf, by rw [List.mem_range'_1]; omega, fun k h1 h2 => by rw [hno k h1 h2]; rfl⟩
          rw [this]; rfl
        have := q _ s1
        rw [hr] at this
        exact ⟨_, rfl, this⟩
      · have hf : isFree g.1 (rCla cs gs) (1 + j) = false := by rw [hfr]; exact Bool.eq_false_iff.mpr h1
        refine ⟨_, rfl, rfl, fun k h1 h2 => ?_⟩
        rcases Nat.lt_or_ge k (1 + j) with h | h
        · exact hno k h1 h
        · have : k = 1 + j := by omega
          rw [this]; exact hf
    · rintro σ H2 ⟨y4, rfl, rfl, hno⟩
      rw [List.length_map] at hno
      have hr : resOf g.1 (rCla cs gs) = g.1.length := by
        unfold resOf
        have : (List.range' 1 (g.1.length - 1)).find? (isFree g.1 (rCla cs gs)) = none := by
          rw [List.find?_range'_eq_none]
          intro k h1 h2
          rw [hno k h1 (by omega)]; rfl
        rw [this]; rfl
      have := q _ s1
      rw [hr] at this
      refine ⟨.ref pA, rfl, pA, _, rfl, .inr hP1, ?_⟩
      rw [List.length_map]
      exact this
end
end Pv

namespace Pv
open PySem PySem.Spec PyProof.Rows L2
abbrev sGr : Stmt := topS 13
theorem scGr : FnScope ["instance", "crowded", "routes", "group", "first"] ["instance"] (defScope sGr) := ⟨rfl, rfl, rfl, by decide +kernel, rfl, by decide +kernel, by decide +kernel⟩
/-! routes -/
def oV : Option Int → V
  | some x => .int x
  | none => .non
theorem optV_oV (ps : List Int) (k : Nat) : optV ps k = oV ps[k]? := by unfold optV; cases ps[k]? <;> rfl
def routeOf (cs : List Int) (gs : List Gp) (g : Gp) : Option (Int × Option Int) := match g.1 with
  | [] => none
  | p :: _ => if (rCro cs gs).contains p = true then some (p, g.1[resOf g.1 (rCla cs gs)]?) else none
def RtV (K : PySem.W.Frag) (H : Hp) (v : V) : Option (Int × Option Int) → Prop
  | none => v = .non
  | some r => ∃ T, v = .ref T ∧ SqT K H T [.int r.1, oV r.2]
def RtAll (K : PySem.W.Frag) (H : Hp) (vs : List V) (rs : List (Option (Int × Option Int))) : Prop := vs.length = rs.length ∧ ∀ (j : Nat) (v : V) (r : Option (Int × Option Int)), vs[j]? = some v → rs[j]? = some r → RtV K H v r
theorem RtV.tk {K : PySem.W.Frag} {H H' : Hp} {v : V} {r : Option (Int × Option Int)} (h : RtV K H v r) (s : TupK H H') : RtV K H' v r := by
  cases r with
  | none => exact h
  | some r => obtain ⟨T, e, h⟩ := h; exact ⟨T, e, s.sq h⟩
theorem RtAll.tk {K : PySem.W.Frag} {H H' : Hp} {vs : List V} {rs : List (Option (Int × Option Int))} (h : RtAll K H vs rs) (s : TupK H H') : RtAll K H' vs rs := ⟨h.1, fun j v r h1 h2 => (h.2 j v r h1 h2).tk s⟩
theorem RtAll.snoc {K : PySem.W.Frag} {H : Hp} {vs : List V} {rs : List (Option (Int × Option Int))} {v : V} {r : Option (Int × Option Int)} (h : RtAll K H vs rs) (hv : RtV K H v r) : RtAll K H (vs ++ [v]) (rs ++ [r]) := by
  refine ⟨by simp [h.1], fun j v' r' h1 h2 => ?_⟩
  by_cases hj : j < vs.length
  · rw [List.getElem?_append_left hj] at h1
    rw [List.getElem?_append_left (by rw [← h.1]; exact hj)] at h2
    exact h.2 j v' r' h1 h2
  · rw [List.getElem?_append_right (by omega)] at h1
    rw [List.getElem?_append_right (by rw [← h.1]; omega)] at h2
    have e : j - vs.length = 0 := by have := (List.getElem?_eq_some_iff.mp h1).1; simp at this; omega
    rw [e] at h1
    rw [← h.1, e] at h2
    simp at h1 h2
    rw [← h1, ← h2]; exact hv
theorem inV_opt (ps cl : List Int) : inV (optV ps 0) (cl.map V.int) = match ps with | [] => false | p :: _ => cl.contains p := by
  cases ps with
  | nil =>
    show inV .non (cl.map V.int) = false
    induction cl with
    | nil => rfl
    | cons c cl ih =>
      have e : eqV (V.int c) V.non = false := rfl
      simp only [List.map_cons, inV] at ih ⊢
      simp [e] at ih ⊢
      exact ih
  | cons p ps => exact inV_ints p cl
theorem resOf_le (ps cl : List Int) : resOf ps cl ≤ ps.length := by
  unfold resOf
  cases e : (List.range' 1 (ps.length - 1)).find? (isFree ps cl) with
  | none => simp
  | some x =>
    have := List.mem_of_find?_eq_some e
    rw [List.mem_range'_1] at this
    simp; omega
section
variable {P : Program} {w : World} {K : PySem.W.Frag} {mg : Str → Option Value} {base : Heap}
def spGr (K : PySem.W.Frag) : Sp := fun vs H Q _ => ∃ (i : Addr) (cs : List Int) (gs : List Gp), vs = [.ref i] ∧ Dp K H (.ref i) (dInst cs gs) ∧ InsOk cs gs ∧
  ∀ H' p vs, Same H H' → H' p = some (.lst vs) → RtAll K H' vs (gs.map (routeOf cs gs)) → H p = none → Q (.ref p) H'
set_option maxHeartbeats 2000000 in
theorem ok_Gr {f fCr fOp fRe : Addr} {fd fdCr fdOp fdRe : FuncData} (F : Fun K "group_routes" "group_routes" sGr f fd)
    (FCr : Fun K "crowded_posts" "crowded_posts" sCro fCr fdCr) (bCr : Binds K fdCr ["instance"] []) (gCr : mg "crowded_posts" = some (.ref fCr)) (GCr : FnOk P w K mg base CX0 3 fCr fdCr ["instance"] (spVec K rCro))
    (FOp : Fun K "option_post" "option_post" sOpt fOp fdOp) (bOp : Binds K fdOp ["instance", "group", "option"] []) (gOp : mg "option_post" = some (.ref fOp)) (GOp : FnOk P w K mg base CX0 1 fOp fdOp ["instance", "group", "option"] (spOpt K))
    (FRe : Fun K "reserve_option" "reserve_option" sRes fRe fdRe) (bRe : Binds K fdRe ["instance", "group"] []) (gRe : mg "reserve_option" = some (.ref fRe)) (GRe : FnOk P w K mg base CX0 4 fRe fdRe ["instance", "group"] (spRes K))
    (m_len : mg "len" = none) (m_range : mg "range" = none) :
    FnOk P w K mg base CX0 5 f fd ["instance"] (spGr K) := by
  refine F.ok scGr (fun vs H Q E h => ?_) (fun cdv A outer s H vs Q E hr h => ?_)
  · obtain ⟨i, cs, gs, rfl, _⟩ := h; rfl
  · obtain ⟨i, cs, gs, rfl, hI, ok, q⟩ := h
    refine ⟨_, pss_cons (ps_set (i := 1) scGr.nd rfl (.inl rfl) (pe_call GCr (hr.mono (by omega)) (by rfl) gCr FCr.kp bCr .nil pass0 (pa_cons (pv 0) pa_nil)))
      (pss_cons (ps_set (i := 2) scGr.nd rfl (.inl rfl) (pe_lst (pa_nil)))
      (pss_cons (ps_for PassesOwn.never rfl (pi_range1 (by rfl) m_range (pa_cons (pe_callB call_lenQ (by rfl) m_len PySem.boot_len (pa_cons (pe_ix ix_tup (pv 0) (pe_int) (fun _ _ => rfl)) pa_nil)) pa_nil)) (pg_name (i := 3) scGr.nd rfl (.inl rfl))
        (pss_cons (ps_set (i := 4) scGr.nd rfl (.inl rfl) (pe_call GOp (hr.mono (by omega)) (by rfl) gOp FOp.kp bOp .nil pass0 (pa_cons (pv 0) (pa_cons (pv 3) (pa_cons (pe_int) pa_nil)))))
        (pss_one (ps_if (pt_cmpR op_in_seq (pv 4) (pv 1) (by rfl))
          (pss_one (ps_expr (pe_bm PySem.F.plainAttrs_list PySem.F.slot_list_append PySem.F.type_list_append mt_append (pv 2) (pa_cons (pe_tup (pa_cons (pv 4) (pa_cons (pe_call GOp (hr.mono (by omega)) (by rfl) gOp FOp.kp bOp .nil pass0 (pa_cons (pv 0) (pa_cons (pv 3) (pa_cons (pe_call GRe (hr.mono (by omega)) (by rfl) gRe FRe.kp bRe .nil pass0 (pa_cons (pv 0) (pa_cons (pv 3) pa_nil))) pa_nil)))) pa_nil))) pa_nil)))) (pss_one (ps_expr (pe_bm PySem.F.plainAttrs_list PySem.F.slot_list_append PySem.F.type_list_append mt_append (pv 2) (pa_cons (pe_non) pa_nil))))))))
      (pss_one (ps_ret (pv 2))))), ?_⟩
    obtain ⟨_, ca, ga, xs, e, hi, hc, hgt, hgs⟩ := inst_open hI
    cases e
    have lx := DpAll.len hgs
    rw [List.length_map] at lx
    have h10 := ok.g10
    refine ⟨.ref i, rfl, i, cs, gs, rfl, hI, ok, fun H1 Cr s1 hCr => ⟨Nat.zero_le _, fun Ro nRo => ?_⟩⟩
    obtain ⟨_, e, hCr⟩ := dI_ref hCr
    cases e
    have s2 := s1.trans (sameNew (o := .lst []) nRo)
    have fRo : H Ro = none := by
      cases e : H Ro with
      | none => rfl
      | some o => have := s1 _ _ e; rw [nRo] at this; cases this
    refine ⟨.ref i, rfl, i, _, 1, .ref ga, rfl, rfl, (TupK.of s2).sq hi, atI_nat (j := 1) rfl, ga, _, rfl, .inr ((TupK.of s2).sq hgt), _, rfl, by omega, by omega, for_it (walk_range (lo := 0) (n := ((xs.length : Nat) : Int).toNat))
      (fun j σ H3 => ∃ (y3 y4 : Option V) (vs : List V), σ = [some (.ref i), some (.ref Cr), some (.ref Ro), y3, y4] ∧ Same H1 H3 ∧ H3 Ro = some (.lst vs) ∧ RtAll K H3 vs ((gs.take j).map (routeOf cs gs)))
      ⟨none, none, [], rfl, sameNew nRo, upd_same, by simp [RtAll]⟩ (fun _ _ _ _ _ => trivial) ?_ ?_⟩
    · rintro j v σ H3 H4 hlt ⟨y3, y4, vs, rfl, s3, e3, hv3⟩ ⟨rfl, rfl⟩
      have hj : j < gs.length := by omega
      have hg : gs[j]? = some gs[j] := List.getElem?_eq_getElem hj
      have e0 : (0 : Int) + (j : Nat) = ((j : Nat) : Int) := by omega
      have sH := s1.trans s3
      have hI3 := (TupK.of sH).dp _ _ (to_dInst _ _) hI
      have hlv : vs.length = j := by rw [hv3.1, List.length_map, List.length_take]; omega
      dsimp only
      rw [e0]
      refine ⟨.ref i, rfl, .int (j : Nat), rfl, i, j, 0, cs, gs, gs[j], rfl, hI3, hg, Nat.zero_le _, ?_⟩
      refine ⟨_, rfl, .ref Cr, rfl, Cr, _, rfl, .inr ((TupK.of s3).sq hCr), ?_, flat_ints _, _, rfl, ?_⟩
      · unfold optV; split <;> rfl
      have esn : (gs.take (j + 1)).map (routeOf cs gs) = (gs.take j).map (routeOf cs gs) ++ [routeOf cs gs gs[j]] := by rw [take_snoc hg, List.map_append]; rfl
      have hcr := inV_opt gs[j].1 (rCro cs gs)
      refine ite2 (fun h1 => ?_) (fun h1 => ?_)
      · rw [if_neg (by decide), hcr] at h1
        obtain ⟨p, ps, hps, hpc⟩ : ∃ p ps, gs[j].1 = p :: ps ∧ (rCro cs gs).contains p = true := by
          cases e : gs[j].1 with
          | nil => rw [e] at h1; simp at h1
          | cons p ps => rw [e] at h1; exact ⟨p, ps, rfl, h1⟩
        have hr : routeOf cs gs gs[j] = some (p, gs[j].1[resOf gs[j].1 (rCla cs gs)]?) := by unfold routeOf; rw [hps]; simp only; rw [if_pos hpc]
        have ho : optV gs[j].1 0 = .int p := by unfold optV; rw [hps]; rfl
        rw [ho]
        refine ⟨.ref Ro, rfl, .inl ⟨rfl, _, SqL.of e3⟩, .int p, rfl, .ref i, rfl, .int (j : Nat), rfl, .ref i, rfl, .int (j : Nat), rfl, i, j, cs, gs, gs[j], rfl, hI3, ok, hg, fun H5 s5 => ?_⟩
        refine ⟨i, j, resOf gs[j].1 (rCla cs gs), cs, gs, gs[j], rfl, (TupK.of s5).dp _ _ (to_dInst _ _) hI3, hg, resOf_le _ _, (show (2 : Nat) ≤ sizeLine by decide), fun T nT => ?_⟩
        have sT := sameNew (o := .tup [.int p, optV gs[j].1 (resOf gs[j].1 (rCla cs gs))]) nT
        have e6 := (s5.trans sT) _ _ e3
        have tkp : TupK _ (upd (upd H5 T (.tup [.int p, optV gs[j].1 (resOf gs[j].1 (rCla cs gs))])) Ro (.lst (vs ++ [.ref T]))) := TupK.put e6
        refine ⟨Ro, vs, _, rfl, rfl, e6, by rw [hlv]; exact small (by omega), _, _, vs ++ [.ref T], rfl, samePut ((s3.trans s5).trans sT) nRo, upd_same, ?_⟩
        rw [esn, hr]
        refine RtAll.snoc (hv3.tk ((TupK.of (s5.trans sT)).trans tkp)) ⟨T, rfl, ?_⟩
        rw [← optV_oV]
        exact tkp.sq (SqT.of upd_same)
      · rw [if_neg (by decide), hcr] at h1
        have hr : routeOf cs gs gs[j] = none := by
          unfold routeOf
          cases e : gs[j].1 with
          | nil => rfl
          | cons p ps => rw [e] at h1; simp only; rw [if_neg h1]
        refine ⟨.ref Ro, rfl, .inl ⟨rfl, _, SqL.of e3⟩, Ro, vs, _, rfl, rfl, e3, by rw [hlv]; exact small (by omega), _, _, vs ++ [.non], rfl, samePut s3 nRo, upd_same, ?_⟩
        rw [esn, hr]
        exact RtAll.snoc (hv3.tk (TupK.put e3)) rfl
    rintro σ H3 ⟨y3, y4, vs, rfl, s3, e3, hv3⟩
    rw [lx, Int.toNat_natCast, List.take_length] at hv3
    exact ⟨_, rfl, q _ Ro vs (s1.trans s3) e3 hv3 fRo⟩
end
end Pv

namespace Pv
open PySem PySem.Spec PyProof.Rows L2
abbrev sMn : Stmt := topS 16
theorem scMn : FnScope ["instance", "numbers", "moved", "taken", "route", "number", "places"] ["instance", "numbers"] (defScope sMn) := ⟨rfl, rfl, rfl, by decide +kernel, rfl, by decide +kernel, by decide +kernel⟩
theorem iteFF {c : Bool} {A B : Prop} (hc : c = false) (h : B) : if c = true then A else B := by rw [if_neg (by rw [hc]; decide)]; exact h
theorem iteTT {c : Bool} {A B : Prop} (hc : c = true) (h : A) : if c = true then A else B := by rw [if_pos hc]; exact h
theorem eqv_intsL (as bs : List Int) : PyData.eqv (.list (as.map PyData.int)) (.list (bs.map PyData.int)) = decide (as = bs) := by
  have key : ∀ (as bs : List Int), PyData.eqvAll (as.map PyData.int) (bs.map PyData.int) = decide (as = bs) := by
    intro as
    induction as with
    | nil => intro bs; cases bs <;> simp [PyData.eqvAll]
    | cons a as ih =>
      intro bs
      cases bs with
      | nil => simp [PyData.eqvAll]
      | cons b bs =>
        simp only [List.map_cons, PyData.eqvAll, PyData.eqv, ih, List.cons.injEq]
        by_cases h1 : a = b <;> by_cases h2 : as = bs <;> simp [h1, h2]
  rw [PyData.eqv]; exact key as bs
def mvStep (st : List Int × List Int) (z : Option (Int × Option Int) × Int) : List Int × List Int := match z.1 with
  | none => st
  | some r => (addAt st.1 r.1 z.2, match r.2 with | some y => addAt st.2 y z.2 | none => st.2)
def mvOf (n : Nat) (zs : List (Option (Int × Option Int) × Int)) : List Int × List Int := zs.foldl mvStep (zeros n, zeros n)
theorem mvOf_snoc (n : Nat) (zs : List (Option (Int × Option Int) × Int)) (z : Option (Int × Option Int) × Int) : mvOf n (zs ++ [z]) = mvStep (mvOf n zs) z := by simp [mvOf, List.foldl_append]
theorem mvOf_len (n : Nat) (zs : List (Option (Int × Option Int) × Int)) : (mvOf n zs).1.length = n ∧ (mvOf n zs).2.length = n := by
  have : ∀ (zs : List (Option (Int × Option Int) × Int)) (s : List Int × List Int), s.1.length = n → s.2.length = n → (zs.foldl mvStep s).1.length = n ∧ (zs.foldl mvStep s).2.length = n := by
    intro zs
    induction zs with
    | nil => intro s h1 h2; exact ⟨h1, h2⟩
    | cons z zs ih =>
      intro s h1 h2
      refine ih _ ?_ ?_
      · unfold mvStep; split
        · exact h1
        · simp only [addAt_len]; exact h1
      · unfold mvStep; split
        · exact h2
        · simp only; split
          · rw [addAt_len]; exact h2
          · exact h2
  exact this zs _ (by simp [zeros]) (by simp [zeros])
def zsOf (cs : List Int) (gs : List Gp) (xs : List Int) : List (Option (Int × Option Int) × Int) := (gs.map (routeOf cs gs)).zip xs
def goodZ (z : Option (Int × Option Int) × Int) : Bool := z.1.isSome || decide (z.2 = 0)
def meetsD (cs : List Int) (gs : List Gp) (xs : List Int) : Bool := (zsOf cs gs xs).all goodZ && decide ((mvOf cs.length (zsOf cs gs xs)).1 = rExc cs gs) && ((mvOf cs.length (zsOf cs gs xs)).2.zip (rFre cs gs)).all (fun z => decide (z.1 ≤ z.2))
theorem route_in {cs : List Int} {gs : List Gp} (ok : InsOk cs gs) {g : Gp} (hg : g ∈ gs) {r : Int × Option Int} (h : routeOf cs gs g = some r) : (0 ≤ r.1 ∧ r.1 < (cs.length : Int)) ∧ ∀ y, r.2 = some y → 0 ≤ y ∧ y < (cs.length : Int) := by
  have hp := (ok.gp g hg).2.1
  unfold routeOf at h
  cases e : g.1 with
  | nil => rw [e] at h; cases h
  | cons p ps =>
    rw [e] at h
    simp only at h
    split at h
    · cases h
      refine ⟨hp p (by rw [e]; simp), fun y hy => hp y ?_⟩
      rw [e]
      exact List.mem_of_getElem? hy
    · cases h
section
variable {P : Program} {w : World} {K : PySem.W.Frag} {mg : Str → Option Value} {base : Heap}
def spMn (K : PySem.W.Frag) : Sp := fun vs H Q _ => ∃ (i b : Addr) (cs : List Int) (gs : List Gp) (xs : List Int), vs = [.ref i, .ref b] ∧ Dp K H (.ref i) (dInst cs gs) ∧ InsOk cs gs ∧ SqT K H b (xs.map V.int) ∧ xs.length = gs.length ∧ ∀ H', Same H H' → Q (.bl (meetsD cs gs xs)) H'
set_option maxHeartbeats 2000000 in
theorem ok_Mn {f fGr fEx fFr : Addr} {fd fdGr fdEx fdFr : FuncData} (F : Fun K "meets_needs" "meets_needs" sMn f fd)
    (FGr : Fun K "group_routes" "group_routes" sGr fGr fdGr) (bGr : Binds K fdGr ["instance"] []) (gGr : mg "group_routes" = some (.ref fGr)) (GGr : FnOk P w K mg base CX0 5 fGr fdGr ["instance"] (spGr K))
    (FEx : Fun K "excesses" "excesses" sExc fEx fdEx) (bEx : Binds K fdEx ["instance"] []) (gEx : mg "excesses" = some (.ref fEx)) (GEx : FnOk P w K mg base CX0 2 fEx fdEx ["instance"] (spVec K rExc))
    (FFr : Fun K "free_places" "free_places" sFre fFr fdFr) (bFr : Binds K fdFr ["instance"] []) (gFr : mg "free_places" = some (.ref fFr)) (GFr : FnOk P w K mg base CX0 2 fFr fdFr ["instance"] (spVec K rFre))
    (m_len : mg "len" = none) (m_zip : mg "zip" = none) (m_list : mg "list" = none) (m_all : mg "all" = none) :
    FnOk P w K mg base CX0 6 f fd ["instance", "numbers"] (spMn K) := by
  refine F.ok scMn (fun vs H Q E h => ?_) (fun cdv A outer s H vs Q E hr h => ?_)
  · obtain ⟨i, b, cs, gs, xs, rfl, _⟩ := h; rfl
  · obtain ⟨i, b, cs, gs, xs, rfl, hI, ok, hB, lB, q⟩ := h
    have hu64 : (A.deeper (envOfC "meets_needs" (defScope sMn) s.heap.objs.size f cdv)).units + 64 < cLine := by have := hr.un; omega
    refine ⟨_, pss_cons (ps_set (i := 2) scMn.nd rfl (.inl rfl) (pe_op op_rep (pe_lst (pa_cons (pe_int) pa_nil)) (pe_callB call_lenQ (by rfl) m_len PySem.boot_len (pa_cons (pe_ix ix_tup (pv 0) (pe_int) (fun _ _ => rfl)) pa_nil))))
      (pss_cons (ps_set (i := 3) scMn.nd rfl (.inl rfl) (pe_op op_rep (pe_lst (pa_cons (pe_int) pa_nil)) (pe_callB call_lenQ (by rfl) m_len PySem.boot_len (pa_cons (pe_ix ix_tup (pv 0) (pe_int) (fun _ _ => rfl)) pa_nil))))
      (pss_cons (ps_for PassesOwn.never rfl (pi_zipM (by rfl) m_zip (pa_cons (pe_call GGr (hr.mono (by omega)) (by rfl) gGr FGr.kp bGr .nil pass0 (pa_cons (pv 0) pa_nil)) (pa_cons (pv 1) pa_nil))) (pg_tup rfl (pgs_cons (pg_name (i := 4) scMn.nd rfl (.inl rfl)) (pgs_cons (pg_name (i := 5) scMn.nd rfl (.inl rfl)) pgs_nil)))
        (pss_cons (ps_if (pt_cmp (pc_isN (pv 4)))
          (pss_cons (ps_if (pt_cmpR op_ne (pv 5) (pe_int) (nomark _))
            (pss_one (ps_ret (pe_bl))) pss_nil)
          (pss_one (ps_continue))) pss_nil)
        (pss_cons (ps_augS (pv 2) (pe_ix ix_tup (pv 4) (pe_int) (fun _ _ => rfl)) get_list (pv 5) ip_add set_list)
        (pss_one (ps_if (pt_cmp (pc_notN (pe_ix ix_tup (pv 4) (pe_int) (fun _ _ => rfl))))
          (pss_one (ps_augS (pv 3) (pe_ix ix_tup (pv 4) (pe_int) (fun _ _ => rfl)) get_list (pv 5) ip_add set_list)) pss_nil)))))
      (pss_cons (ps_if (pt_cmpR (op_neD hu64) (pv 2) (pe_callTy call_list_of (by rfl) m_list (by decide +kernel) (pa_cons (pe_call GEx (hr.mono (by omega)) (by rfl) gEx FEx.kp bEx .nil pass0 (pa_cons (pv 0) pa_nil)) pa_nil)) (nomark _))
        (pss_one (ps_ret (pe_bl))) pss_nil)
      (pss_one (ps_ret (pe_callB (cr_all rfl) (by rfl) m_all (by decide +kernel) (pa_cons (pe_lc (own := [("number", 5), ("places", 6)]) (g := gTup K 2 (gCons (gName 5) (gCons (gName 6) gNil))) (tt := tYes) (te := tOp (rI0 fun i j => .bl (decide (i ≤ j))) (tVar 5) (tVar 6)) rfl scMn.nd (pi_zipM (by rfl) m_zip (pa_cons (pv 3) (pa_cons (pe_call GFr (hr.mono (by omega)) (by rfl) gFr FFr.kp bFr .nil pass0 (pa_cons (pv 0) pa_nil)) pa_nil))) (blkOk_by (N := ["instance", "numbers", "moved", "taken", "route", "number", "places"]) (sc := defScope sMn) (by decide +kernel)) (fun _ _ _ _ _ => pg_tup rfl (pgs_cons (pg_name (i := 5) scMn.nd rfl (.inl rfl)) (pgs_cons (pg_name (i := 6) scMn.nd rfl (.inl rfl)) pgs_nil))) (fun _ _ _ _ _ => pts_nil) (fun _ _ _ _ _ => pe_cmpR op_le (pv 5) (pv 6) (nomark _))) pa_nil))))))), ?_⟩
    obtain ⟨_, ca, ga, ys, e, hi, hc, hgt, hgs⟩ := inst_open hI
    cases e
    have h6 := ok.c6
    have h10 := ok.g10
    have hsz : 1 * ((cs.map V.int).length : Int).toNat ≤ sizeLine := by rw [List.length_map]; have := small (n := cs.length) (by omega); omega
    refine ⟨(show (1 : Nat) ≤ sizeLine by decide), fun Z1 nZ1 => ⟨.ref i, rfl, i, _, 0, .ref ca, rfl, rfl, (TupK.new nZ1).sq hi, atI_nat (j := 0) rfl, ca, _, rfl, .inr ((TupK.new nZ1).sq hc), Z1, _, _, rfl, rfl, upd_same, by omega, by rw [List.length_map]; omega, hsz, fun Mo nMo => ?_⟩⟩
    have fMo : H Mo = none := freeOf nMo
    have s1 := samePut (o := .lst (List.replicate ((List.map V.int cs).length : Int).toNat [V.int 0]).flatten) (sameNew (o := .lst [.int 0]) nZ1) fMo
    have eM1 : (upd (upd H Z1 (.lst [.int 0])) Mo (.lst (List.replicate ((List.map V.int cs).length : Int).toNat [V.int 0]).flatten)) Mo = some (.lst ((zeros cs.length).map V.int)) := by rw [upd_same, List.length_map, Int.toNat_natCast, zeros_V]
    generalize upd (upd H Z1 (.lst [.int 0])) Mo (.lst (List.replicate ((List.map V.int cs).length : Int).toNat [V.int 0]).flatten) = H1 at s1 eM1
    refine ⟨(show (1 : Nat) ≤ sizeLine by decide), fun Z2 nZ2 => ⟨.ref i, rfl, i, _, 0, .ref ca, rfl, rfl, ((TupK.of s1).trans (TupK.new nZ2)).sq hi, atI_nat (j := 0) rfl, ca, _, rfl, .inr (((TupK.of s1).trans (TupK.new nZ2)).sq hc), Z2, _, _, rfl, rfl, upd_same, by omega, by rw [List.length_map]; omega, hsz, fun Ta nTa => ?_⟩⟩
    have fTa1 : H1 Ta = none := freeOf nTa
    have nMT : Mo ≠ Ta := ne_of_none eM1 fTa1
    have fTa : H Ta = none := by
      cases e : H Ta with
      | none => rfl
      | some o => have := s1 _ _ e; rw [fTa1] at this; cases this
    have s12 := samePut (o := .lst (List.replicate ((List.map V.int cs).length : Int).toNat [V.int 0]).flatten) (sameNew (o := .lst [.int 0]) nZ2) fTa1
    have eT2 : (upd (upd H1 Z2 (.lst [.int 0])) Ta (.lst (List.replicate ((List.map V.int cs).length : Int).toNat [V.int 0]).flatten)) Ta = some (.lst ((zeros cs.length).map V.int)) := by rw [upd_same, List.length_map, Int.toNat_natCast, zeros_V]
    generalize upd (upd H1 Z2 (.lst [.int 0])) Ta (.lst (List.replicate ((List.map V.int cs).length : Int).toNat [V.int 0]).flatten) = H2 at s12 eT2
    have eM2 := s12 _ _ eM1
    have s2 := s1.trans s12
    refine ⟨.ref i, rfl, i, cs, gs, rfl, (TupK.of s2).dp _ _ (to_dInst _ _) hI, ok, fun H3 Ro rv s3 eR hR fR => ?_⟩
    have nMR : Mo ≠ Ro := ne_of_none eM2 fR
    have nTR : Ta ≠ Ro := ne_of_none eT2 fR
    have s03 := s2.trans s3
    have lrv : rv.length = gs.length := by rw [hR.1, List.length_map]
    have hz : ∀ j, j < gs.length → (zsOf cs gs xs)[j]? = some (routeOf cs gs (gs.getD j ([], 0)), xs.getD j 0) := by
      intro j hj
      have h2 : j < xs.length := by omega
      unfold zsOf
      rw [List.getElem?_zip_eq_some]
      simp [List.getD_eq_getElem?_getD, List.getElem?_eq_getElem hj, List.getElem?_eq_getElem h2]
    have lz : (zsOf cs gs xs).length = gs.length := by simp [zsOf]; omega
    refine ⟨.ref b, rfl, Ro, b, _, _, rfl, SqL.of eR, (TupK.of s03).sq hB, for_it (walk_zipM (K := K) (a := Ro) (b := b) (xs := rv) (ys := xs.map V.int) rfl)
      (fun j σ H4 => ∃ (y4 y5 : Option V), σ = [some (.ref i), some (.ref b), some (.ref Mo), some (.ref Ta), y4, y5, none] ∧ Same H H4 ∧ TupK H3 H4 ∧ H4 Ro = some (.lst rv) ∧ H4 Mo = some (.lst ((mvOf cs.length ((zsOf cs gs xs).take j)).1.map V.int)) ∧ H4 Ta = some (.lst ((mvOf cs.length ((zsOf cs gs xs).take j)).2.map V.int)) ∧ ((zsOf cs gs xs).take j).all goodZ = true)
      ⟨none, none, rfl, s03, .refl _, eR, s3 _ _ eM2, s3 _ _ eT2, rfl⟩ (fun j σ H4 _ h => by obtain ⟨_, _, _, s4, _, eR4, _⟩ := h; exact ⟨SqL.of eR4, (TupK.of s4).sq hB⟩) ?_ ?_⟩
    · rintro j v σ H4 H5 hlt ⟨y4, y5, rfl, s4, tk4, eR4, eM4, eT4, hgd⟩ ⟨T, x, y, rfl, nT, rfl, ex, ey⟩
      rw [List.length_map] at hlt
      have hj : j < gs.length := by omega
      have hg : gs[j]? = some gs[j] := List.getElem?_eq_getElem hj
      have hjx : j < xs.length := by omega
      have ex : rv[j]? = some x := ex
      have ey : (xs.map V.int)[j]? = some y := ey
      rw [List.getElem?_map, List.getElem?_eq_getElem hjx] at ey
      cases ey
      have hzj : (zsOf cs gs xs)[j]? = some (routeOf cs gs gs[j], xs[j]) := by rw [hz j hj]; simp [List.getD_eq_getElem?_getD, hg, List.getElem?_eq_getElem hjx]
      have hrt := hR.2 j x (routeOf cs gs gs[j]) ex (by rw [List.getElem?_map, hg]; rfl)
      have sT := sameNew (o := .tup [x, .int xs[j]]) nT
      have s5 := s4.trans sT
      have tk5 := tk4.trans (TupK.of sT)
      have eM5 := sT _ _ eM4
      have eT5 := sT _ _ eT4
      have eR5 := sT _ _ eR4
      obtain ⟨lm, lt⟩ := mvOf_len cs.length ((zsOf cs gs xs).take j)
      have esn : mvOf cs.length ((zsOf cs gs xs).take (j + 1)) = mvStep (mvOf cs.length ((zsOf cs gs xs).take j)) (routeOf cs gs gs[j], xs[j]) := by rw [take_snoc hzj, mvOf_snoc]
      have ags : ((zsOf cs gs xs).take (j + 1)).all goodZ = goodZ (routeOf cs gs gs[j], xs[j]) := by rw [take_snoc hzj, List.all_append, hgd]; simp
      refine ⟨T, _, rfl, SqT.of upd_same, rfl, _, _, rfl, _, _, rfl, rfl, ?_⟩
      generalize upd H4 T (.tup [x, .int xs[j]]) = H6 at sT s5 tk5 eM5 eT5 eR5
      cases hr : routeOf cs gs gs[j] with
      | none =>
        rw [hr] at hrt esn ags hzj
        have hrt : x = .non := hrt
        subst hrt
        refine ⟨.non, rfl, _, rfl, iteT ⟨.int xs[j], rfl, rfl, _, rfl, ite2 (fun h1 => ?_) (fun h1 => ?_)⟩⟩
        · have h1 : xs[j] ≠ 0 := by intro e; rw [e] at h1; simp at h1
          have hf : meetsD cs gs xs = false := by
            have : (zsOf cs gs xs).all goodZ = false := by
              rw [List.all_eq_false]
              exact ⟨_, List.mem_of_getElem? hzj, by simp [goodZ, h1]⟩
            unfold meetsD
            rw [this]; rfl
          rw [hf] at q
          exact q _ s5
        · have h1 : xs[j] = 0 := by
            by_cases e : xs[j] = 0
            · exact e
            · exact absurd (by simp [e]) h1
          exact ⟨_, _, rfl, s5, tk5, eR5, by rw [esn]; exact eM5, by rw [esn]; exact eT5, by rw [ags]; simp [goodZ, h1]⟩
      | some rr =>
        obtain ⟨p0, q0⟩ := rr
        obtain ⟨hp0, hq0⟩ := route_in ok (List.getElem_mem hj) hr
        rw [hr] at hrt esn ags
        obtain ⟨Tt, rfl, hTt⟩ := hrt
        have hTt6 := tk5.sq hTt
        obtain ⟨pn, rfl⟩ : ∃ pn : Nat, p0 = pn := ⟨p0.toNat, by simp only at hp0; omega⟩
        have hpl : pn < (mvOf cs.length ((zsOf cs gs xs).take j)).1.length := by simp only at hp0; omega
        refine ⟨.ref Tt, rfl, _, rfl, iteF ?_⟩
        refine ⟨.ref Mo, rfl, .ref Tt, rfl, Tt, _, 0, .int pn, rfl, rfl, hTt6, atI_nat (j := 0) rfl, Mo, _, pn, .int (mvOf cs.length ((zsOf cs gs xs).take j)).1[pn], rfl, rfl, SqL.of eM5, by rw [List.getElem?_map, List.getElem?_eq_getElem hpl]; rfl, .int xs[j], rfl, _, _, rfl, rfl, Mo, _, _, pn, rfl, rfl, eM5, ixN_nat (by rw [List.length_map]; exact hpl), ?_⟩
        have hset : ((mvOf cs.length ((zsOf cs gs xs).take j)).1.map V.int).set pn (.int ((mvOf cs.length ((zsOf cs gs xs).take j)).1[pn] + xs[j])) = (addAt (mvOf cs.length ((zsOf cs gs xs).take j)).1 pn xs[j]).map V.int := by
          unfold addAt
          rw [Int.toNat_natCast, List.getD_eq_getElem?_getD, List.getElem?_eq_getElem hpl, List.map_set]
          rfl
        dsimp only
        rw [hset]
        have s7 := samePut (o := .lst ((addAt (mvOf cs.length ((zsOf cs gs xs).take j)).1 pn xs[j]).map V.int)) s5 fMo
        have tk7 := tk5.trans (TupK.put (o := .lst ((addAt (mvOf cs.length ((zsOf cs gs xs).take j)).1 pn xs[j]).map V.int)) eM5)
        have eM7 : (upd H6 Mo (.lst ((addAt (mvOf cs.length ((zsOf cs gs xs).take j)).1 pn xs[j]).map V.int))) Mo = some (.lst ((addAt (mvOf cs.length ((zsOf cs gs xs).take j)).1 pn xs[j]).map V.int)) := upd_same
        have eT7 : (upd H6 Mo (.lst ((addAt (mvOf cs.length ((zsOf cs gs xs).take j)).1 pn xs[j]).map V.int))) Ta = some (.lst ((mvOf cs.length ((zsOf cs gs xs).take j)).2.map V.int)) := by rw [upd_ne nMT.symm]; exact eT5
        have eR7 : (upd H6 Mo (.lst ((addAt (mvOf cs.length ((zsOf cs gs xs).take j)).1 pn xs[j]).map V.int))) Ro = some (.lst rv) := by rw [upd_ne nMR.symm]; exact eR5
        generalize upd H6 Mo (.lst ((addAt (mvOf cs.length ((zsOf cs gs xs).take j)).1 pn xs[j]).map V.int)) = H7 at s7 tk7 eM7 eT7 eR7
        have hTt7 := tk7.sq hTt
        have hgood : ((zsOf cs gs xs).take (j + 1)).all goodZ = true := by rw [ags]; simp [goodZ]
        cases q0 with
        | none =>
          refine ⟨.ref Tt, rfl, Tt, _, 1, .non, rfl, rfl, hTt7, atI_nat (j := 1) rfl, _, rfl, iteFF (by simp) ?_⟩
          exact ⟨_, _, rfl, s7, tk7, eR7, by rw [esn]; exact eM7, by rw [esn]; exact eT7, hgood⟩
        | some y0 =>
          have hy0 := hq0 y0 rfl
          obtain ⟨yn, rfl⟩ : ∃ yn : Nat, y0 = yn := ⟨y0.toNat, by omega⟩
          have hyl : yn < (mvOf cs.length ((zsOf cs gs xs).take j)).2.length := by omega
          refine ⟨.ref Tt, rfl, Tt, _, 1, .int yn, rfl, rfl, hTt7, atI_nat (j := 1) rfl, _, rfl, iteTT (by simp) ?_⟩
          refine ⟨.ref Ta, rfl, .ref Tt, rfl, Tt, _, 1, .int yn, rfl, rfl, hTt7, atI_nat (j := 1) rfl, Ta, _, yn, .int (mvOf cs.length ((zsOf cs gs xs).take j)).2[yn], rfl, rfl, SqL.of eT7, by rw [List.getElem?_map, List.getElem?_eq_getElem hyl]; rfl, .int xs[j], rfl, _, _, rfl, rfl, Ta, _, _, yn, rfl, rfl, eT7, ixN_nat (by rw [List.length_map]; exact hyl), ?_⟩
          refine ⟨_, _, rfl, samePut s7 fTa, tk7.trans (TupK.put eT7), by rw [upd_ne nTR.symm]; exact eR7, by rw [upd_ne nMT, esn]; exact eM7, ?_, hgood⟩
          rw [upd_same, esn]
          show _ = some (HO.lst ((addAt (mvOf cs.length ((zsOf cs gs xs).take j)).2 yn xs[j]).map V.int))
          unfold addAt
          rw [Int.toNat_natCast, List.getD_eq_getElem?_getD, List.getElem?_eq_getElem hyl, List.map_set]
          rfl
    rintro σ H4 ⟨y4, y5, rfl, s4, tk4, eR4, eM4, eT4, hgd⟩
    have hmin : min rv.length (xs.map V.int).length = (zsOf cs gs xs).length := by rw [List.length_map]; omega
    rw [hmin, List.take_length] at eM4 eT4 hgd
    refine ⟨.ref Mo, rfl, .ref i, rfl, i, cs, gs, rfl, (TupK.of s4).dp _ _ (to_dInst _ _) hI, ok, fun H5 Ex s5 hEx => ?_⟩
    obtain ⟨_, e, hEx⟩ := dI_ref hEx
    cases e
    refine ⟨Ex, _, rfl, .inr hEx, fun Le nLe => ?_⟩
    have sL := s5.trans (sameNew (o := .lst ((rExc cs gs).map V.int)) nLe)
    refine ⟨.list ((mvOf cs.length (zsOf cs gs xs)).1.map PyData.int), .list ((rExc cs gs).map PyData.int), .lst (SqL.of (sL _ _ eM4)) (dp_ints _), .lst (SqL.of upd_same) (dp_ints _), shaped_ints _, shaped_ints _, _, rfl, ?_⟩
    rw [eqv_intsL]
    have s04 := s4.trans sL
    refine ite2 (fun h1 => ?_) (fun h1 => ?_)
    · have hf : meetsD cs gs xs = false := by
        unfold meetsD
        have : decide ((mvOf cs.length (zsOf cs gs xs)).1 = rExc cs gs) = false := by simpa using h1
        rw [this]; simp
      rw [hf] at q
      exact q _ s04
    have h1 : (mvOf cs.length (zsOf cs gs xs)).1 = rExc cs gs := by simpa using h1
    refine ⟨.ref Ta, rfl, .ref i, rfl, i, cs, gs, rfl, (TupK.of s04).dp _ _ (to_dInst _ _) hI, ok, fun H6 Fr s6 hFr => ?_⟩
    obtain ⟨_, e, hFr⟩ := dI_ref hFr
    cases e
    have eT6 := (sL.trans s6) _ _ eT4
    have s06 := s04.trans s6
    have lt2 := (mvOf_len cs.length (zsOf cs gs xs)).2
    refine ⟨Ta, Fr, _, _, rfl, SqL.of eT6, hFr, fun D nD => lc_it (walk_zipM (K := K) (a := Ta) (b := Fr) (xs := (mvOf cs.length (zsOf cs gs xs)).2.map V.int) (ys := (rFre cs gs).map V.int) rfl)
      (fun j H7 => Same H6 H7 ∧ H7 D = some (.lst (((((mvOf cs.length (zsOf cs gs xs)).2.zip (rFre cs gs)).take j).map (fun z => decide (z.1 ≤ z.2))).map V.bl))) ⟨sameNew nD, upd_same⟩ (fun j H7 _ h => ⟨SqL.of (h.1 _ _ eT6), (TupK.of h.1).sq hFr⟩) ?_ ?_⟩
    · rintro j v H7 H8 hlt ⟨s7, e7⟩ ⟨T, x, y, rfl, nT, rfl, ex, ey⟩
      rw [List.length_map, List.length_map] at hlt
      have hj1 : j < (mvOf cs.length (zsOf cs gs xs)).2.length := by omega
      have hj2 : j < (rFre cs gs).length := by omega
      have ex : ((mvOf cs.length (zsOf cs gs xs)).2.map V.int)[j]? = some x := ex
      have ey : ((rFre cs gs).map V.int)[j]? = some y := ey
      rw [List.getElem?_map, List.getElem?_eq_getElem hj1] at ex
      rw [List.getElem?_map, List.getElem?_eq_getElem hj2] at ey
      cases ex
      cases ey
      have sT := sameNew (o := .tup [.int (mvOf cs.length (zsOf cs gs xs)).2[j], .int (rFre cs gs)[j]]) nT
      have hq : ((mvOf cs.length (zsOf cs gs xs)).2.zip (rFre cs gs))[j]? = some ((mvOf cs.length (zsOf cs gs xs)).2[j], (rFre cs gs)[j]) := by rw [List.getElem?_zip_eq_some]; exact ⟨List.getElem?_eq_getElem hj1, List.getElem?_eq_getElem hj2⟩
      refine ⟨T, _, rfl, SqT.of upd_same, rfl, _, _, rfl, _, _, rfl, rfl, rfl, .int (mvOf cs.length (zsOf cs gs xs)).2[j], rfl, .int (rFre cs gs)[j], rfl, _, _, rfl, rfl, _, sT _ _ e7, ?_, samePut (s7.trans sT) nD, ?_⟩
      · rw [List.length_map, List.length_map, List.length_take]; exact small (by omega)
      · rw [upd_same, take_snoc hq, List.map_append, List.map_append]; rfl
    rintro H7 ⟨s7, e7⟩
    refine ⟨D, _, rfl, SqL.of e7, ?_⟩
    have hm2 : meetsD cs gs xs = (((((mvOf cs.length (zsOf cs gs xs)).2.zip (rFre cs gs)).take (min ((mvOf cs.length (zsOf cs gs xs)).2.map V.int).length ((rFre cs gs).map V.int).length)).map (fun z => decide (z.1 ≤ z.2))).all id) := by
      rw [List.take_of_length_le (by rw [List.length_zip, List.length_map, List.length_map]; exact Nat.le_refl _), List.all_map]
      unfold meetsD
      rw [hgd, decide_eq_true h1]
      rfl
    rw [← hm2]
    exact q _ (s06.trans s7)
end
end Pv

namespace Pv
open PySem PySem.Spec PyProof.Rows L2
abbrev sIv : Stmt := topS 15
theorem scIv : FnScope ["instance", "value", "groups", "posts", "count", "number"] ["instance", "value"] (defScope sIv) := ⟨rfl, rfl, rfl, by decide +kernel, rfl, by decide +kernel, by decide +kernel⟩
def intAt : PyData → Int
  | .int i => i
  | _ => 0
def tupIt : PyData → List PyData
  | .tuple ds => ds
  | _ => []
def isVecD (cs : List Int) (gs : List Gp) (d : PyData) : Bool := tupOfD (gs.length : Nat) (gs.length : Nat) d && ((gs.zip (tupIt d)).all (fun z => withinD 0 z.1.2 z.2) && meetsD cs gs ((tupIt d).map intAt))
theorem ints_vals {K : PySem.W.Frag} {st r : Addr} {H : Hp} : ∀ {ds : List PyData} {zs : List V}, (∀ d ∈ ds, ∃ x, d = PyData.int x) → DqAll K st r H zs ds → zs = (ds.map intAt).map V.int
  | [], _, _, h => by cases h; rfl
  | d :: ds, _, hi, h => by
    cases h with
    | cons h1 h2 =>
      obtain ⟨x, rfl⟩ := hi d (by simp)
      cases h1
      rw [ints_vals (fun d hd => hi d (by simp [hd])) h2]
      rfl
section
variable {P : Program} {w : World} {K : PySem.W.Frag} {mg : Str → Option Value} {base : Heap}
def spIv (K : PySem.W.Frag) : Sp := fun vs H Q _ => ∃ (st r i : Addr) (v : V) (cs : List Int) (gs : List Gp) (d : PyData), vs = [.ref i, v] ∧ Dp K H (.ref i) (dInst cs gs) ∧ InsOk cs gs ∧ Dq K st r H v d ∧ ∀ H', Same H H' → Q (.bl (isVecD cs gs d)) H'
set_option maxHeartbeats 2000000 in
theorem ok_Iv {f fTo fWi fMn : Addr} {fd fdTo fdWi fdMn : FuncData} (F : Fun K "is_vector" "is_vector" sIv f fd)
    (FTo : Fun K "is_tuple_of" "is_tuple_of" sTupOf fTo fdTo) (bTo : Binds K fdTo ["value", "least", "most"] []) (gTo : mg "is_tuple_of" = some (.ref fTo)) (GTo : FnOk P w K mg base CX0 1 fTo fdTo ["value", "least", "most"] (spTupOf K))
    (FWi : Fun K "is_within" "is_within" sWithin fWi fdWi) (bWi : Binds K fdWi ["value", "least", "most"] []) (gWi : mg "is_within" = some (.ref fWi)) (GWi : FnOk P w K mg base CX0 2 fWi fdWi ["value", "least", "most"] (spWithin K))
    (FMn : Fun K "meets_needs" "meets_needs" sMn fMn fdMn) (bMn : Binds K fdMn ["instance", "numbers"] []) (gMn : mg "meets_needs" = some (.ref fMn)) (GMn : FnOk P w K mg base CX0 6 fMn fdMn ["instance", "numbers"] (spMn K))
    (m_len : mg "len" = none) (m_zip : mg "zip" = none) (m_all : mg "all" = none) :
    FnOk P w K mg base CX0 7 f fd ["instance", "value"] (spIv K) := by
  refine F.ok scIv (fun vs H Q E h => ?_) (fun cdv A outer s H vs Q E hr h => ?_)
  · obtain ⟨st, r, i, v, cs, gs, d, rfl, _⟩ := h; rfl
  · obtain ⟨st, r, i, v, cs, gs, d, rfl, hI, ok, hv, q⟩ := h
    refine ⟨_, pss_cons (ps_set (i := 2) scIv.nd rfl (.inl rfl) (pe_ix ix_tup (pv 0) (pe_int) (fun _ _ => rfl)))
      (pss_cons (ps_if (pt_not (pt_val (pe_call GTo (hr.mono (by omega)) (by rfl) gTo FTo.kp bTo .nil pass0 (pa_cons (pv 1) (pa_cons (pe_callB call_lenQ (by rfl) m_len PySem.boot_len (pa_cons (pv 2) pa_nil)) (pa_cons (pe_callB call_lenQ (by rfl) m_len PySem.boot_len (pa_cons (pv 2) pa_nil)) pa_nil))))))
        (pss_one (ps_ret (pe_bl))) pss_nil)
      (pss_cons (ps_if (pt_not (pt_val (pe_callB (cr_all rfl) (by rfl) m_all (by decide +kernel) (pa_cons (pe_lc (own := [("posts", 3), ("count", 4), ("number", 5)]) (g := gTup K 2 (gCons (gTup K 2 (gCons (gName 3) (gCons (gName 4) gNil))) (gCons (gName 5) gNil))) (tt := tYes) (te := tCall (spWithin K) [] E0 (tCons (tVar 5) (tCons (tC (.int 0)) (tCons (tVar 4) tNil)))) rfl scIv.nd (RZ.pi_zipA (by rfl) m_zip (pa_cons (pv 2) (pa_cons (pv 1) pa_nil))) (blkOk_by (N := ["instance", "value", "groups", "posts", "count", "number"]) (sc := defScope sIv) (by decide +kernel)) (fun _ _ _ _ _ => pg_tup rfl (pgs_cons (pg_tup rfl (pgs_cons (pg_name (i := 3) scIv.nd rfl (.inl rfl)) (pgs_cons (pg_name (i := 4) scIv.nd rfl (.inl rfl)) pgs_nil))) (pgs_cons (pg_name (i := 5) scIv.nd rfl (.inl rfl)) pgs_nil))) (fun _ _ _ _ _ => pts_nil) (fun _ _ _ _ _ => pe_call GWi (hr.mono (by omega)) (by rfl) gWi FWi.kp bWi .nil pass0 (pa_cons (pv 5) (pa_cons (pe_int) (pa_cons (pv 4) pa_nil))))) pa_nil))))
        (pss_one (ps_ret (pe_bl))) pss_nil)
      (pss_one (ps_ret (pe_call GMn (hr.mono (by omega)) (by rfl) gMn FMn.kp bMn .nil pass0 (pa_cons (pv 0) (pa_cons (pv 1) pa_nil))))))), ?_⟩
    obtain ⟨_, ca, ga, ys, e, hi, hc, hgt, hgs⟩ := inst_open hI
    cases e
    have lx := DpAll.len hgs
    rw [List.length_map] at lx
    have h10 := ok.g10
    refine ⟨.ref i, rfl, i, _, 1, .ref ga, rfl, rfl, hi, atI_nat (j := 1) rfl, ?_⟩
    refine ⟨v, rfl, .ref ga, rfl, ga, _, rfl, .inr hgt, .ref ga, rfl, ga, _, rfl, .inr hgt, st, r, v, d, _, _, rfl, hv, ?_⟩
    rw [lx]
    cases hb : tupOfD (gs.length : Nat) (gs.length : Nat) d with
    | false =>
      refine ⟨_, rfl, iteT ?_⟩
      have : isVecD cs gs d = false := by unfold isVecD; rw [hb]; rfl
      rw [this] at q
      exact q _ (Same.refl _)
    | true =>
    refine ⟨_, rfl, iteF ?_⟩
    obtain ⟨ds, rfl, hdl⟩ : ∃ ds, d = .tuple ds ∧ ds.length = gs.length := by
      cases d with
      | tuple ds => exact ⟨ds, rfl, by have := of_decide_eq_true hb; omega⟩
      | _ => simp [tupOfD] at hb
    obtain ⟨b, rfl, zs, hB, hzs⟩ : ∃ b, v = .ref b ∧ ∃ zs, SqT K H b zs ∧ DqAll K st r H zs ds := by
      cases hv with
      | tup h1 h2 => exact ⟨_, rfl, _, h1, h2⟩
    have lzs := DqAll.len hzs
    refine ⟨.ref ga, rfl, .ref b, rfl, ga, b, _, _, rfl, .inr ⟨hgt, hB, fun D nD => lc_it (walk_zipT (K := K) (a := ga) (b := b) (xs := ys) (ys := zs) rfl)
      (fun j H2 => Same H H2 ∧ H2 D = some (.lst ((((gs.zip ds).take j).map (fun z => withinD 0 z.1.2 z.2)).map V.bl))) ⟨sameNew nD, upd_same⟩ (fun j H2 _ h => ⟨(TupK.of h.1).sq hgt, (TupK.of h.1).sq hB⟩) ?_ ?_⟩⟩
    · rintro j x H2 H3 hlt ⟨s2, e2⟩ ⟨T, x0, y0, rfl, nT, rfl, ex, ey⟩
      have hj : j < gs.length := by omega
      have hg : gs[j]? = some gs[j] := List.getElem?_eq_getElem hj
      have ex : ys[j]? = some x0 := ex
      have ey : zs[j]? = some y0 := ey
      obtain ⟨dg, hdg, hxd⟩ := DpAll.at hgs ex
      rw [List.getElem?_map, hg] at hdg
      cases hdg
      obtain ⟨gA, pA, rfl, hG, hP⟩ := grp_ref hxd
      obtain ⟨dy, hdy, hyd⟩ := DqAll.at hzs ey
      have sT := sameNew (o := .tup [.ref gA, y0]) nT
      have s3 := s2.trans sT
      have hq : (gs.zip ds)[j]? = some (gs[j], dy) := by rw [List.getElem?_zip_eq_some]; exact ⟨hg, hdy⟩
      refine ⟨T, _, rfl, SqT.of upd_same, rfl, _, _, rfl, gA, _, rfl, (TupK.of s3).sq hG, rfl, _, _, rfl, _, _, rfl, rfl, _, _, rfl, rfl, rfl, y0, rfl, .int gs[j].2, rfl, st, r, y0, dy, _, _, rfl, hyd.lasts (.of s3), ?_⟩
      refine ⟨_, sT _ _ e2, ?_, samePut s3 nD, ?_⟩
      · rw [List.length_map, List.length_map, List.length_take]; exact small (by omega)
      · rw [upd_same, take_snoc hq, List.map_append, List.map_append]; rfl
    rintro H2 ⟨s2, e2⟩
    rw [List.take_of_length_le (by rw [List.length_zip]; omega)] at e2
    refine ⟨D, _, rfl, SqL.of e2, ?_⟩
    rw [List.all_map]
    cases hb2 : (gs.zip ds).all (id ∘ fun z => withinD 0 z.1.2 z.2) with
    | false =>
      refine ⟨_, rfl, iteT ?_⟩
      have : isVecD cs gs (.tuple ds) = false := by unfold isVecD; rw [hb, show (gs.zip (tupIt (.tuple ds))).all (fun z => withinD 0 z.1.2 z.2) = false from hb2]; rfl
      rw [this] at q
      exact q _ s2
    | true =>
    refine ⟨_, rfl, iteF ?_⟩
    have hint : ∀ d ∈ ds, ∃ x, d = PyData.int x := by
      intro d hd
      obtain ⟨j, hj, e⟩ := List.mem_iff_getElem.mp hd
      have hjg : j < gs.length := by omega
      have hq : (gs.zip ds)[j]? = some (gs[j], ds[j]) := by rw [List.getElem?_zip_eq_some]; exact ⟨List.getElem?_eq_getElem hjg, List.getElem?_eq_getElem hj⟩
      have h1 := List.all_eq_true.mp hb2 _ (List.mem_of_getElem? hq)
      rw [← e]
      have h1 : withinD 0 gs[j].2 ds[j] = true := h1
      cases hds : ds[j] with
      | int x => exact ⟨x, rfl⟩
      | _ => rw [hds] at h1; simp [withinD] at h1
    have hzv := ints_vals hint hzs
    rw [hzv] at hB
    have hfin : isVecD cs gs (.tuple ds) = meetsD cs gs (ds.map intAt) := by
      unfold isVecD
      rw [hb, show (gs.zip (tupIt (.tuple ds))).all (fun z => withinD 0 z.1.2 z.2) = true from hb2]; rfl
    rw [hfin] at q
    exact ⟨.ref i, rfl, .ref b, rfl, i, b, cs, gs, ds.map intAt, rfl, (TupK.of s2).dp _ _ (to_dInst _ _) hI, ok, (TupK.of s2).sq hB, by rw [List.length_map]; exact hdl, fun H3 s3 => q _ (s2.trans s3)⟩
end
end Pv

namespace Pv
open PySem PySem.Spec PyProof.Rows L2
abbrev sLd : Stmt := topS 23
theorem scLd : FnScope ["_law_instance_here", "_law_found", "_law_posts", "_law_count"] ["_law_instance_here"] (defScope sLd) := ⟨rfl, rfl, rfl, by decide +kernel, rfl, by decide +kernel, by decide +kernel⟩
section
variable {P : Program} {w : World} {K : PySem.W.Frag} {mg : Str → Option Value} {base : Heap}
def spLd (K : PySem.W.Frag) : Sp := fun vs H Q _ => ∃ (i : Addr) (cs : List Int) (gs : List Gp), vs = [.ref i] ∧ Dp K H (.ref i) (dInst cs gs) ∧ InsOk cs gs ∧ ∀ H' p, Same H H' → H' p = some (.lst ((rDem cs gs).map V.int)) → H p = none → Q (.ref p) H'
set_option maxHeartbeats 2000000 in
theorem ok_Ld {f : Addr} {fd : FuncData} (F : Fun K "_law_demand" "_law_demand" sLd f fd)
    (m_len : mg "len" = none) :
    FnOk P w K mg base CX0 1 f fd ["_law_instance_here"] (spLd K) := by
  refine F.ok scLd (fun vs H Q E h => ?_) (fun cdv A outer s H vs Q E hr h => ?_)
  · obtain ⟨i, cs, gs, rfl, _⟩ := h; rfl
  · obtain ⟨i, cs, gs, rfl, hI, ok, q⟩ := h
    have hu64 : (A.deeper (envOfC "_law_demand" (defScope sLd) s.heap.objs.size f cdv)).units + 64 < cLine := by have := hr.un; omega
    have hu0 : (A.deeper (envOfC "_law_demand" (defScope sLd) s.heap.objs.size f cdv)).units < cLine := by have := hr.un; omega
    refine ⟨_, pss_cons (ps_set (i := 1) scLd.nd rfl (.inl rfl) (pe_op op_rep (pe_lst (pa_cons (pe_int) pa_nil)) (pe_callB call_lenQ (by rfl) m_len PySem.boot_len (pa_cons (pe_ix ix_tup (pv 0) (pe_int) (fun _ _ => rfl)) pa_nil))))
      (pss_cons (ps_for PassesOwn.never rfl (pi_tup (pe_ix ix_tup (pv 0) (pe_int) (fun _ _ => rfl))) (pg_tup rfl (pgs_cons (pg_name (i := 2) scLd.nd rfl (.inl rfl)) (pgs_cons (pg_name (i := 3) scLd.nd rfl (.inl rfl)) pgs_nil)))
        (pss_one (ps_if (pt_cmpR (op_neNilT hu0) (pv 2) (pe_tup (pa_nil)) (nomark _))
          (pss_one (ps_asg (pe_op op_add (pe_ix ix_list (pv 1) (pe_ix ix_tup (pv 2) (pe_int) (fun _ _ => rfl)) (fun _ _ => rfl)) (pv 3)) (pg_sub (pv 1) (pe_ix ix_tup (pv 2) (pe_int) (fun _ _ => rfl)) set_list))) pss_nil)))
      (pss_one (ps_ret (pv 1)))), ?_⟩
    obtain ⟨_, ca, ga, xs, e, hi, hc, hg, hgs⟩ := inst_open hI
    cases e
    have h6 := ok.c6
    refine ⟨by decide, fun p0 n0 => ⟨.ref i, rfl, i, _, 0, .ref ca, rfl, rfl, (TupK.new n0).sq hi, atI_nat (j := 0) rfl, ca, _, rfl, .inr ((TupK.new n0).sq hc), p0, _, _, rfl, rfl, upd_same, by omega, ?_, ?_, fun L nL => ?_⟩⟩
    · rw [List.length_map]; omega
    · rw [List.length_map]; show 1 * _ ≤ sizeLine; have := small (n := cs.length) (by omega); simp; omega
    have fL : H L = none := freeOf nL
    have s1 : Same H (upd (upd H p0 (.lst [.int 0])) L (.lst (List.replicate ((List.map V.int cs).length : Int).toNat [V.int 0]).flatten)) := samePut (sameNew n0) fL
    refine ⟨.ref i, rfl, i, _, 1, .ref ga, rfl, rfl, (TupK.of s1).sq hi, atI_nat (j := 1) rfl, ga, rfl, ⟨_, (TupK.of s1).sq hg⟩, for_it (walk_tup (K := K) (a := ga) (xs := xs))
      (fun i' σ H2 => ∃ y2 y3, σ = [some (.ref i), some (.ref L), y2, y3] ∧ Same H H2 ∧ H2 L = some (.lst ((demOf cs.length (gs.take i')).map V.int)))
      ⟨none, none, rfl, s1, ?_⟩ ?_ ?_ ?_⟩
    · rw [upd_same, List.length_map, Int.toNat_natCast, zeros_V]; rfl
    · rintro i' σ H2 _ ⟨y2, y3, rfl, s2, e2⟩
      exact (TupK.of s2).sq hg
    · rintro i' v σ H2 H3 hlt ⟨y2, y3, rfl, s2, e2⟩ ⟨rfl, hx⟩
      obtain ⟨d, hd, hxd⟩ := DpAll.at hgs hx
      rw [List.getElem?_map] at hd
      obtain ⟨g, hgi, rfl⟩ := Option.map_eq_some_iff.mp hd
      obtain ⟨gA, pA, rfl, hG, hP⟩ := grp_ref hxd
      have tk := TupK.of s2
      have hsn := demOf_snoc (n := cs.length) hgi
      have hgp := (ok.gp g (List.mem_of_getElem? hgi)).2.1
      have hdl := demOf_len cs.length (gs.take i')
      generalize hcur : demOf cs.length (gs.take i') = cur at e2 hsn hdl
      refine ⟨gA, _, rfl, tk.sq hG, rfl, _, _, rfl, _, _, rfl, rfl, ?_⟩
      refine ⟨.ref pA, rfl, Nat.zero_le _, fun Em nEm => ?_⟩
      have sE := sameNew (o := .tup []) nEm
      have tkE := tk.trans (TupK.of sE)
      have eE := sE _ _ e2
      refine ⟨pA, Em, _, rfl, rfl, tkE.sq hP, SqT.of upd_same, _, rfl, ?_⟩
      generalize upd H3 Em (.tup []) = H4 at sE tkE eE
      have sH := s2.trans sE
      cases hgg : g.1 with
      | nil =>
        refine iteF ⟨_, _, rfl, sH, ?_⟩
        rw [eE, hsn]
        unfold dAdd
        rw [hgg]
      | cons pp ps =>
        refine iteT ?_
        have hpr := hgp pp (by rw [hgg]; simp)
        obtain ⟨pn, rfl⟩ : ∃ pn : Nat, pp = pn := ⟨pp.toNat, by omega⟩
        have hpl : pn < cur.length := by omega
        have hP0 := tkE.sq hP
        have hcv : (cur.map V.int)[pn]? = some (.int cur[pn]) := by rw [List.getElem?_map, List.getElem?_eq_getElem hpl]; rfl
        have h0 : (g.1.map V.int)[0]? = some (.int (pn : Nat)) := by rw [hgg]; rfl
        refine ⟨.ref L, rfl, .ref pA, rfl, pA, _, 0, .int pn, rfl, rfl, hP0, atI_nat (j := 0) h0, L, _, _, .int cur[pn], rfl, rfl, SqL.of eE, atI_nat hcv, .int g.2, rfl, _, _, rfl, rfl, .ref L, rfl, .ref pA, rfl, pA, _, 0, .int pn, rfl, rfl, hP0, atI_nat (j := 0) h0, L, _, _, pn, rfl, rfl, eE, ixN_nat (by rw [List.length_map]; exact hpl), ?_⟩
        refine ⟨_, _, rfl, samePut sH fL, ?_⟩
        rw [upd_same, hsn]
        unfold dAdd
        rw [hgg]
        show _ = some (HO.lst ((addAt cur pn g.2).map V.int))
        unfold addAt
        rw [Int.toNat_natCast, List.getD_eq_getElem?_getD, List.getElem?_eq_getElem hpl, List.map_set]
        rfl
    · rintro σ H2 ⟨y2, y3, rfl, s2, e2⟩
      rw [DpAll.len hgs, List.length_map, List.take_length] at e2
      exact ⟨_, rfl, q _ L s2 e2 fL⟩
end
end Pv

namespace Pv
open PySem PySem.Spec PyProof.Rows L2
abbrev sLr : Stmt := topS 24
theorem scLr : FnScope ["_law_instance_here", "_law_group", "_law_posts", "_law_demand_here", "_law_k"] ["_law_instance_here", "_law_group"] (defScope sLr) := ⟨rfl, rfl, rfl, by decide +kernel, rfl, by decide +kernel, by decide +kernel⟩
abbrev sLw : Stmt := topS 25
theorem scLw : FnScope ["_law_instance_here", "_law_demand_here", "_law_found", "_law_group", "_law_posts", "_law_count", "_law_option"] ["_law_instance_here"] (defScope sLw) := ⟨rfl, rfl, rfl, by decide +kernel, rfl, by decide +kernel, by decide +kernel⟩
abbrev sLo : Stmt := topS 26
theorem scLo : FnScope ["_law_instance_here", "_law_demand_here", "_law_excess", "_law_many", "_law_capacity"] ["_law_instance_here"] (defScope sLo) := ⟨rfl, rfl, rfl, by decide +kernel, rfl, by decide +kernel, by decide +kernel⟩
theorem sel_has (f : Int → Bool) (ls : List Int) {n k : Nat} (hk : k < n) : (sel f ls n).contains (k : Int) = f (ls.getD k 0) := by
  rw [Bool.eq_iff_iff, List.contains_iff_mem]
  simp only [sel, List.mem_map, List.mem_filter, List.mem_range]
  constructor
  · rintro ⟨a, ⟨h, e⟩, h2⟩
    have : a = k := by omega
    subst this; exact e
  · exact fun h => ⟨k, ⟨hk, h⟩, rfl⟩
theorem fre_at {cs ds : List Int} {p : Nat} (h1 : p < cs.length) (h2 : p < ds.length) : (freOf cs ds).getD p 0 = mx (cs[p] - ds[p]) := by
  unfold freOf
  rw [List.getD_eq_getElem?_getD, List.getElem?_map, (List.getElem?_zip_eq_some.mpr ⟨List.getElem?_eq_getElem h1, List.getElem?_eq_getElem h2⟩ : (cs.zip ds)[p]? = some (cs[p], ds[p]))]
  rfl
theorem exc_at {cs ds : List Int} {p : Nat} (h1 : p < cs.length) (h2 : p < ds.length) : (excOf cs ds).getD p 0 = mx (ds[p] - cs[p]) := by
  unfold excOf
  rw [List.getD_eq_getElem?_getD, List.getElem?_map, (List.getElem?_zip_eq_some.mpr ⟨List.getElem?_eq_getElem h1, List.getElem?_eq_getElem h2⟩ : (cs.zip ds)[p]? = some (cs[p], ds[p]))]
  rfl
theorem cla_has {cs : List Int} {gs : List Gp} {p : Nat} (h : p < cs.length) : (rCla cs gs).contains (p : Int) = decide (cs[p] ≤ (rDem cs gs)[p]'(by rw [rDem_len]; exact h)) := by
  unfold rCla
  rw [sel_has _ _ h]
  unfold rFre
  rw [fre_at h (by rw [rDem_len]; exact h)]
  unfold mx
  rw [decide_eq_decide]
  split <;> omega
theorem cro_has {cs : List Int} {gs : List Gp} {p : Nat} (h : p < cs.length) : (rCro cs gs).contains (p : Int) = decide (cs[p] < (rDem cs gs)[p]'(by rw [rDem_len]; exact h)) := by
  unfold rCro
  rw [sel_has _ _ h]
  unfold rExc
  rw [exc_at h (by rw [rDem_len]; exact h)]
  unfold mx
  rw [decide_eq_decide]
  split <;> omega
theorem zip_turn {α β γ : Type} (f : α × β → γ) : ∀ (as : List α) (bs : List β), (as.zip bs).map f = (bs.zip as).map fun z => f (z.2, z.1)
  | [], bs => by simp
  | a :: as, [] => by simp
  | a :: as, b :: bs => by simp [zip_turn f as bs]
theorem exc_zip (ds cs : List Int) : (ds.zip cs).map (fun z => V.int (mx (z.1 - z.2))) = (excOf cs ds).map V.int := by
  rw [zip_turn]; unfold excOf; rw [List.map_map]; rfl
theorem fre_zip (ds cs : List Int) : (ds.zip cs).map (fun z => V.int (mx (z.2 - z.1))) = (freOf cs ds).map V.int := by
  rw [zip_turn]; unfold freOf; rw [List.map_map]; rfl
theorem res_head {ps cl : List Int} {F : Nat → Option V} (hl : 1 ≤ ps.length) (hF : ∀ k, 1 ≤ k → k < ps.length → F k = if isFree ps cl k = true then some (.int (k : Nat)) else none) (hL : F ps.length = some (.int (ps.length : Nat))) :
    ((List.range' 1 ps.length).filterMap F)[0]? = some (.int (resOf ps cl : Nat)) := by
  obtain ⟨m, hm⟩ : ∃ m, ps.length = m + 1 := ⟨ps.length - 1, by omega⟩
  have e : List.range' 1 ps.length = List.range' 1 m ++ [ps.length] := by rw [hm, List.range'_1_concat, Nat.add_comm 1 m]
  have key : ∀ l : List Nat, (∀ k ∈ l, 1 ≤ k ∧ k < ps.length) → (l.filterMap F ++ [V.int (ps.length : Nat)])[0]? = some (.int (((l.find? (isFree ps cl)).getD ps.length : Nat) : Int)) := by
    intro l
    induction l with
    | nil => intro _; rfl
    | cons k l ih =>
      intro h
      have hk := h k (by simp)
      have := hF k hk.1 hk.2
      by_cases hf : isFree ps cl k = true
      · rw [if_pos hf] at this
        rw [List.filterMap_cons_some this, List.find?_cons_of_pos hf]; rfl
      · rw [if_neg hf] at this
        rw [List.filterMap_cons_none this, List.find?_cons_of_neg hf]
        exact ih fun k hk => h k (by simp [hk])
  rw [e, List.filterMap_append, show List.filterMap F [ps.length] = [V.int (ps.length : Nat)] by simp [hL], key _ (fun k hk => by rw [List.mem_range'_1] at hk; omega)]
  unfold resOf
  rw [hm, Nat.add_sub_cancel]
abbrev Rw := Nat × Int × Option Int × Int
def rowAt (cs : List Int) (gs : List Gp) (j : Nat) (g : Gp) : Option Rw := (routeOf cs gs g).map fun r => (j, r.1, r.2, g.2)
def rowsTo (cs : List Int) (gs : List Gp) (n : Nat) : List Rw := (List.range n).filterMap fun j => gs[j]?.bind (rowAt cs gs j)
theorem rowsTo_succ {cs : List Int} {gs : List Gp} {j : Nat} {g : Gp} (h : gs[j]? = some g) : rowsTo cs gs (j + 1) = rowsTo cs gs j ++ (rowAt cs gs j g).toList := by
  unfold rowsTo
  rw [List.range_succ, List.filterMap_append]
  congr 1
  simp only [List.filterMap_cons, List.filterMap_nil, h, Option.bind_some]
  cases rowAt cs gs j g <;> rfl
theorem rowsTo_len (cs : List Int) (gs : List Gp) (n : Nat) : (rowsTo cs gs n).length ≤ n := by
  unfold rowsTo
  exact Nat.le_trans (List.length_filterMap_le _ _) (by simp)
def RwV (K : PySem.W.Frag) (H : Hp) (v : V) (r : Rw) : Prop := ∃ T, v = .ref T ∧ SqT K H T [.int (r.1 : Nat), .int r.2.1, oV r.2.2.1, .int r.2.2.2]
theorem RwV.tk {K : PySem.W.Frag} {H H' : Hp} {v : V} {r : Rw} (h : RwV K H v r) (s : TupK H H') : RwV K H' v r := by
  obtain ⟨T, e, h⟩ := h; exact ⟨T, e, s.sq h⟩
theorem RwV.same {K : PySem.W.Frag} {H H' : Hp} {v : V} {r : Rw} (h : RwV K H v r) (s : Same H H') : RwV K H' v r := h.tk (.of s)
section
variable {P : Program} {w : World} {K : PySem.W.Frag} {mg : Str → Option Value} {base : Heap}
set_option maxHeartbeats 2000000 in
theorem ok_Lr {f fLd : Addr} {fd fdLd : FuncData} (F : Fun K "_law_reserve" "_law_reserve" sLr f fd)
    (FLd : Fun K "_law_demand" "_law_demand" sLd fLd fdLd) (bLd : Binds K fdLd ["_law_instance_here"] []) (gLd : mg "_law_demand" = some (.ref fLd)) (GLd : FnOk P w K mg base CX0 1 fLd fdLd ["_law_instance_here"] (spLd K))
    (m_len : mg "len" = none) (m_range : mg "range" = none) :
    FnOk P w K mg base CX0 2 f fd ["_law_instance_here", "_law_group"] (spRes K) := by
  refine F.ok scLr (fun vs H Q E h => ?_) (fun cdv A outer s H vs Q E hr h => ?_)
  · obtain ⟨i, gi, cs, gs, g, rfl, _⟩ := h; rfl
  · obtain ⟨i, gi, cs, gs, g, rfl, hI, ok, hg, q⟩ := h
    have hu64 : (A.deeper (envOfC "_law_reserve" (defScope sLr) s.heap.objs.size f cdv)).units + 64 < cLine := by have := hr.un; omega
    have hu0 : (A.deeper (envOfC "_law_reserve" (defScope sLr) s.heap.objs.size f cdv)).units < cLine := by have := hr.un; omega
    refine ⟨_, pss_cons (ps_asg (pe_tup (pa_cons (pe_ix ix_tup (pe_ix ix_tup (pe_ix ix_tup (pv 0) (pe_int) (fun _ _ => rfl)) (pv 1) (fun _ _ => rfl)) (pe_int) (fun _ _ => rfl)) (pa_cons (pe_call GLd (hr.mono (by omega)) (by rfl) gLd FLd.kp bLd .nil pass0 (pa_cons (pv 0) pa_nil)) pa_nil))) (pg_tup rfl (pgs_cons (pg_name (i := 2) scLr.nd rfl (.inr rfl)) (pgs_cons (pg_name (i := 3) scLr.nd rfl (.inr rfl)) pgs_nil))))
      (pss_cons (ps_if (pt_cmpR (op_eqNilT hu0) (pv 2) (pe_tup (pa_nil)) (nomark _))
        (pss_one (ps_ret (pe_int))) pss_nil)
      (pss_one (ps_ret (pe_ix ix_list (pe_lc (own := [("_law_k", 4)]) (g := gName 4) (tt := tOr (tTest (tOp rEq (tVar 4) (tCB (rLenQ K) (tCons (tVar 2) tNil)))) (tTest (tOp (rI0 fun i j => .bl (decide (i < j))) (tOp (rIxL K) (tVar 3) (tOp (rIxT K) (tVar 2) (tVar 4))) (tOp (rIxT K) (tOp (rIxT K) (tVar 0) (tC (.int 0))) (tOp (rIxT K) (tVar 2) (tVar 4)))))) (te := tVar 4) rfl scLr.nd (pi_range2 (by rfl) m_range (pa_cons (pe_int) (pa_cons (pe_op op_add (pe_callB call_lenQ (by rfl) m_len PySem.boot_len (pa_cons (pv 2) pa_nil)) (pe_int)) pa_nil))) (blkOk_by (N := ["_law_instance_here", "_law_group", "_law_posts", "_law_demand_here", "_law_k"]) (sc := defScope sLr) (by decide +kernel)) (fun _ _ _ _ _ => pg_name (i := 4) scLr.nd rfl (.inl rfl)) (fun _ _ _ _ _ => pts_one (PW.pt (pw_or (pt_cmpR op_eq (pv 4) (pe_callB call_lenQ (by rfl) m_len PySem.boot_len (pa_cons (pv 2) pa_nil)) (nomark _)) (pw_or1 (pt_cmpR op_lt (pe_ix ix_list (pv 3) (pe_ix ix_tup (pv 2) (pv 4) (fun _ _ => rfl)) (fun _ _ => rfl)) (pe_ix ix_tup (pe_ix ix_tup (pv 0) (pe_int) (fun _ _ => rfl)) (pe_ix ix_tup (pv 2) (pv 4) (fun _ _ => rfl)) (fun _ _ => rfl)) (nomark _)))))) (fun _ _ _ _ _ => pv 4)) (pe_int) (fun _ _ => rfl))))), ?_⟩
    obtain ⟨_, ca, ga, xs, e, hi, hc, hgt, hgs⟩ := inst_open hI
    cases e
    obtain ⟨gA, pA, hx, hG, hP⟩ := grp_at hgs hg
    have hgl := (ok.gp g (List.mem_of_getElem? hg)).1
    have hgp := (ok.gp g (List.mem_of_getElem? hg)).2.1
    have h6 := ok.c6
    refine ⟨.ref i, rfl, i, _, 1, .ref ga, rfl, rfl, hi, atI_nat (j := 1) rfl, .int gi, rfl, ga, _, _, _, rfl, rfl, hgt, atI_nat hx, gA, _, 0, .ref pA, rfl, rfl, hG, atI_nat (j := 0) rfl, ?_⟩
    refine ⟨.ref i, rfl, i, cs, gs, rfl, hI, ok, fun H1 Dm s1 eD _ => ⟨(show (2 : Nat) ≤ sizeLine by decide), fun T nT => ⟨T, _, rfl, SqT.of upd_same, rfl, _, _, rfl, _, _, rfl, rfl, ?_⟩⟩⟩
    have s2 := s1.trans (sameNew (o := .tup [.ref pA, .ref Dm]) nT)
    have eD2 := sameNew (o := .tup [.ref pA, .ref Dm]) nT _ _ eD
    generalize upd H1 T (.tup [.ref pA, .ref Dm]) = H2 at s2 eD2
    refine ⟨.ref pA, rfl, Nat.zero_le _, fun Em nEm => ⟨pA, Em, _, rfl, rfl, sqS (s2.trans (sameNew nEm)) hP, SqT.of upd_same, _, rfl, ?_⟩⟩
    have s3 := s2.trans (sameNew (o := .tup []) nEm)
    have eD3 := sameNew (o := .tup []) nEm _ _ eD2
    generalize upd H2 Em (.tup []) = H3 at s3 eD3
    by_cases hne : g.1 = []
    · have hr : resOf g.1 (rCla cs gs) = 0 := by rw [hne]; rfl
      rw [hne]
      refine iteT ?_
      have := q _ s3
      rw [hr] at this
      exact this
    have hl1 : 1 ≤ g.1.length := by cases hgg : g.1 with
      | nil => exact absurd hgg hne
      | cons a b => simp
    refine iteFF (by rw [List.isEmpty_eq_false_iff]; simpa using hne) ?_
    have hP3 := sqS s3 hP
    have hdl := rDem_len cs gs
    refine ⟨.ref pA, rfl, pA, _, rfl, .inr hP3, _, _, rfl, rfl, 1, _, rfl, ⟨by omega, by omega, by omega, by rw [List.length_map]; omega⟩, fun D nD => lc_it (walk_range (lo := 1) (n := ((((List.map V.int g.1).length : Int) + 1) - 1).toNat))
      (LcP H3 D (List.range' 1 g.1.length) (fun k => if (k == g.1.length || isFree g.1 (rCla cs gs) k) = true then some (.int (k : Nat)) else none)) (.start nD) (fun _ _ _ _ => trivial) ?_ ?_⟩
    · rintro j v H4 H5 hlt hL ⟨rfl, rfl⟩
      rw [List.length_map] at hlt
      have hj : j < g.1.length := by omega
      have e1 : (1 : Int) + (j : Nat) = ((1 + j : Nat) : Int) := by omega
      have hz : (List.range' 1 g.1.length)[j]? = some (1 + j) := by rw [List.getElem?_range' hj]; simp
      have s5 := s3.trans hL.1
      have hP5 := sqS s5 hP
      have eD5 := hL.1 _ _ eD3
      dsimp only
      rw [e1]
      refine ⟨rfl, .int ((1 + j : Nat) : Int), rfl, .ref pA, rfl, pA, _, rfl, .inr hP5, rfl, _, rfl, ite2 (fun h1 => ?_) (fun h1 => ?_)⟩
      · have h1 : 1 + j = g.1.length := by simp at h1; omega
        exact ⟨_, rfl, hL.yes nD (Same.refl _) hz (by rw [h1]; simp) (by omega)⟩
      have h1 : ¬ (1 + j = g.1.length) := by simp at h1; omega
      have hk : 1 + j < g.1.length := by omega
      have hpr := hgp g.1[1 + j] (List.getElem_mem hk)
      obtain ⟨pn, hpn⟩ : ∃ pn : Nat, g.1[1 + j] = pn := ⟨g.1[1 + j].toNat, by omega⟩
      have hpl : pn < cs.length := by omega
      have hpv : (g.1.map V.int)[1 + j]? = some (.int (pn : Nat)) := by rw [atS hk, hpn]
      refine ⟨.ref Dm, rfl, .ref pA, rfl, .int ((1 + j : Nat) : Int), rfl, pA, _, _, .int pn, rfl, rfl, hP5, atI_nat hpv, Dm, _, _, .int (rDem cs gs)[pn], rfl, rfl, SqL.of eD5, atI_nat (atS (by omega)), .ref i, rfl, i, _, 0, .ref ca, rfl, rfl, sqS s5 hi, atI_nat (j := 0) rfl, .ref pA, rfl, .int ((1 + j : Nat) : Int), rfl, pA, _, _, .int pn, rfl, rfl, hP5, atI_nat hpv, ca, _, _, .int cs[pn], rfl, rfl, sqS s5 hc, atI_nat (atS hpl), _, _, rfl, rfl, _, rfl, ?_⟩
      have hfr : isFree g.1 (rCla cs gs) (1 + j) = decide ((rDem cs gs)[pn] < cs[pn]) := by
        unfold isFree
        rw [List.getD_eq_getElem?_getD, List.getElem?_eq_getElem hk, Option.getD_some, hpn, cla_has hpl]
        by_cases h : cs[pn] ≤ (rDem cs gs)[pn] <;> simp [h] <;> omega
      refine ite2 (fun h2 => ?_) (fun h2 => ?_)
      · exact ⟨_, rfl, hL.yes nD (Same.refl _) hz (by rw [hfr, h2]; simp) (by omega)⟩
      · exact hL.no (Same.refl _) hz (by rw [hfr]; simp [h1]; simpa using h2)
    rintro H4 hL
    have e4 := hL.done (by rw [List.length_range', List.length_map]; omega)
    refine ⟨D, _, 0, .int (resOf g.1 (rCla cs gs)), rfl, rfl, SqL.of e4, atI_nat (j := 0) (res_head hl1 (fun k h1 h2 => ?_) (by simp)), q _ (s3.trans hL.1)⟩
    have : (k == g.1.length) = false := by simp; omega
    rw [this]; rfl
def spLw (K : PySem.W.Frag) : Sp := fun vs H Q _ => ∃ (i : Addr) (cs : List Int) (gs : List Gp), vs = [.ref i] ∧ Dp K H (.ref i) (dInst cs gs) ∧ InsOk cs gs ∧
  ∀ H' p vs, Same H H' → H' p = some (.lst vs) → Rl (RwV K H') vs (rowsTo cs gs gs.length) → H p = none → Q (.ref p) H'
set_option maxHeartbeats 2000000 in
theorem ok_Lw {f fLd fLr : Addr} {fd fdLd fdLr : FuncData} (F : Fun K "_law_rows" "_law_rows" sLw f fd)
    (FLd : Fun K "_law_demand" "_law_demand" sLd fLd fdLd) (bLd : Binds K fdLd ["_law_instance_here"] []) (gLd : mg "_law_demand" = some (.ref fLd)) (GLd : FnOk P w K mg base CX0 1 fLd fdLd ["_law_instance_here"] (spLd K))
    (FLr : Fun K "_law_reserve" "_law_reserve" sLr fLr fdLr) (bLr : Binds K fdLr ["_law_instance_here", "_law_group"] []) (gLr : mg "_law_reserve" = some (.ref fLr)) (GLr : FnOk P w K mg base CX0 2 fLr fdLr ["_law_instance_here", "_law_group"] (spRes K))
    (m_enumerate : mg "enumerate" = none) :
    FnOk P w K mg base CX0 3 f fd ["_law_instance_here"] (spLw K) := by
  refine F.ok scLw (fun vs H Q E h => ?_) (fun cdv A outer s H vs Q E hr h => ?_)
  · obtain ⟨i, cs, gs, rfl, _⟩ := h; rfl
  · obtain ⟨i, cs, gs, rfl, hI, ok, q⟩ := h
    have hu64 : (A.deeper (envOfC "_law_rows" (defScope sLw) s.heap.objs.size f cdv)).units + 64 < cLine := by have := hr.un; omega
    have hu0 : (A.deeper (envOfC "_law_rows" (defScope sLw) s.heap.objs.size f cdv)).units < cLine := by have := hr.un; omega
    refine ⟨_, pss_cons (ps_par (i := 1) (j := 2) rfl scLw.nd rfl rfl (by decide) rfl rfl (pa_cons (pe_call GLd (hr.mono (by omega)) (by rfl) gLd FLd.kp bLd .nil pass0 (pa_cons (pv 0) pa_nil)) (pa_cons (pe_lst (pa_nil)) pa_nil)) rfl)
      (pss_cons (ps_for PassesOwn.never rfl (pi_enumT (by rfl) m_enumerate (pa_cons (pe_ix ix_tup (pv 0) (pe_int) (fun _ _ => rfl)) pa_nil)) (pg_tup rfl (pgs_cons (pg_name (i := 3) scLw.nd rfl (.inl rfl)) (pgs_cons (pg_tup rfl (pgs_cons (pg_name (i := 4) scLw.nd rfl (.inl rfl)) (pgs_cons (pg_name (i := 5) scLw.nd rfl (.inl rfl)) pgs_nil))) pgs_nil)))
        (pss_one (ps_if (PW.pt (pw_and (pt_cmpR (op_neNilT hu0) (pv 4) (pe_tup (pa_nil)) (nomark _)) (pw_and1 (pt_cmpR op_gt (pe_ix ix_list (pv 1) (pe_ix ix_tup (pv 4) (pe_int) (fun _ _ => rfl)) (fun _ _ => rfl)) (pe_ix ix_tup (pe_ix ix_tup (pv 0) (pe_int) (fun _ _ => rfl)) (pe_ix ix_tup (pv 4) (pe_int) (fun _ _ => rfl)) (fun _ _ => rfl)) (nomark _)))))
          (pss_cons (ps_set (i := 6) scLw.nd rfl (.inl rfl) (pe_call GLr (hr.mono (by omega)) (by rfl) gLr FLr.kp bLr .nil pass0 (pa_cons (pv 0) (pa_cons (pv 3) pa_nil))))
          (pss_one (ps_expr (pe_bm PySem.F.plainAttrs_list PySem.F.slot_list_append PySem.F.type_list_append mt_append (pv 2) (pa_cons (pe_tup (pa_cons (pv 3) (pa_cons (pe_ix ix_tup (pv 4) (pe_int) (fun _ _ => rfl)) (pa_cons (pe_ix ix_tup (pe_op op_catA (pv 4) (pe_tup (pa_cons (pe_non) pa_nil))) (pv 6) (fun _ _ => rfl)) (pa_cons (pv 5) pa_nil))))) pa_nil))))) pss_nil)))
      (pss_one (ps_ret (pv 2)))), ?_⟩
    obtain ⟨_, ca, ga, xs, e, hi, hc, hgt, hgs⟩ := inst_open hI
    cases e
    have lx := DpAll.len hgs
    rw [List.length_map] at lx
    have h6 := ok.c6
    have h10 := ok.g10
    refine ⟨.ref i, rfl, i, cs, gs, rfl, hI, ok, fun H1 Dm s1 eD nD0 => ⟨Nat.zero_le _, fun Fo nFo => ⟨_, _, rfl, ?_⟩⟩⟩
    have fFo : H Fo = none := by
      cases e : H Fo with
      | none => rfl
      | some o => have := s1 _ _ e; rw [nFo] at this; cases this
    have nDF : Dm ≠ Fo := ne_of_none eD nFo
    have s2 := s1.trans (sameNew (o := .lst []) nFo)
    refine ⟨.ref i, rfl, i, _, 1, .ref ga, rfl, rfl, sqS s2 hi, atI_nat (j := 1) rfl, ga, _, rfl, sqS s2 hgt, for_it (walk_enumT (K := K) (a := ga) (xs := xs))
      (fun j σ H3 => ∃ (y3 y4 y5 y6 : Option V) (vs : List V), σ = [some (.ref i), some (.ref Dm), some (.ref Fo), y3, y4, y5, y6] ∧ Same H1 H3 ∧ H3 Fo = some (.lst vs) ∧ Rl (RwV K H3) vs (rowsTo cs gs j))
      ⟨none, none, none, none, [], rfl, sameNew nFo, upd_same, Rl.nil⟩ (fun j σ H3 _ h => by obtain ⟨_, _, _, _, _, _, s3, _⟩ := h; exact sqS (s1.trans s3) hgt) ?_ ?_⟩
    · rintro j v σ H3 H4 hlt ⟨y3, y4, y5, y6, vs, rfl, s3, e3, hv3⟩ ⟨T, x, y, rfl, nT, rfl, ex, ey⟩
      have hj : j < gs.length := by omega
      have hg : gs[j]? = some gs[j] := List.getElem?_eq_getElem hj
      obtain ⟨gA, pA, hx, hG, hP⟩ := grp_at hgs hg
      cases ex
      have ey : xs[j]? = some y := ey
      rw [hx] at ey
      cases ey
      have hgp := (ok.gp gs[j] (List.getElem_mem hj)).2.1
      have hgl := (ok.gp gs[j] (List.getElem_mem hj)).1
      have hlv : vs.length ≤ j := by rw [hv3.1]; exact rowsTo_len ..
      have sT := sameNew (o := .tup [.int (j : Nat), .ref gA]) nT
      refine ⟨T, _, rfl, SqT.of upd_same, rfl, _, _, rfl, _, _, rfl, gA, _, rfl, sqS (s1.trans (s3.trans sT)) hG, rfl, _, _, rfl, _, _, rfl, rfl, rfl, ?_⟩
      generalize hH4 : upd H3 T (.tup [.int (j : Nat), .ref gA]) = H4 at sT
      refine ⟨.ref pA, rfl, Nat.zero_le _, fun Em nEm => ⟨pA, Em, _, rfl, rfl, sqS (s1.trans ((s3.trans sT).trans (sameNew nEm))) hP, SqT.of upd_same, _, rfl, ?_⟩⟩
      have sE := sT.trans (sameNew (o := .tup []) nEm)
      generalize upd H4 Em (.tup []) = H5 at sE
      have s5 := s3.trans sE
      have s05 := s1.trans s5
      have e5 := sE _ _ e3
      have hv5 : Rl (RwV K H5) vs (rowsTo cs gs j) := hv3.mono fun v r h => h.same sE
      have rsn : rowsTo cs gs (j + 1) = rowsTo cs gs j ++ (rowAt cs gs j gs[j]).toList := rowsTo_succ hg
      by_cases hne : gs[j].1 = []
      · rw [hne]
        refine iteF (iteF ?_)
        refine ⟨_, _, _, _, vs, rfl, s5, e5, ?_⟩
        rw [rsn, show rowAt cs gs j gs[j] = none by unfold rowAt routeOf; rw [hne]; rfl]
        simpa using hv5
      obtain ⟨pp, ps, hps⟩ : ∃ pp ps, gs[j].1 = pp :: ps := by
        cases hgg : gs[j].1 with
        | nil => exact absurd hgg hne
        | cons a b => exact ⟨a, b, rfl⟩
      refine iteTT (by rw [hps]; rfl) ?_
      have hpr := hgp pp (by rw [hps]; simp)
      obtain ⟨pn, rfl⟩ : ∃ pn : Nat, pp = pn := ⟨pp.toNat, by omega⟩
      have hpl : pn < cs.length := by omega
      have hdl : pn < (rDem cs gs).length := by rw [rDem_len]; exact hpl
      have h0 : (gs[j].1.map V.int)[0]? = some (.int (pn : Nat)) := by rw [hps]; rfl
      have hP5 := sqS s05 hP
      refine ⟨.ref Dm, rfl, .ref pA, rfl, pA, _, 0, .int pn, rfl, rfl, hP5, atI_nat (j := 0) h0, Dm, _, _, .int (rDem cs gs)[pn], rfl, rfl, SqL.of (s5 _ _ eD), atI_nat (atS hdl), .ref i, rfl, i, _, 0, .ref ca, rfl, rfl, sqS s05 hi, atI_nat (j := 0) rfl, .ref pA, rfl, pA, _, 0, .int pn, rfl, rfl, hP5, atI_nat (j := 0) h0, ca, _, _, .int cs[pn], rfl, rfl, sqS s05 hc, atI_nat (atS hpl), _, _, rfl, rfl, _, rfl, ?_⟩
      have hro : routeOf cs gs gs[j] = if cs[pn] < (rDem cs gs)[pn] then some ((pn : Int), gs[j].1[resOf gs[j].1 (rCla cs gs)]?) else none := by
        unfold routeOf
        rw [hps]
        simp only
        rw [cro_has hpl]
        by_cases h : cs[pn] < (rDem cs gs)[pn] <;> simp [h]
      refine ite2 (fun h1 => ?_) (fun h1 => ?_)
      · have h1 : cs[pn] < (rDem cs gs)[pn] := by simpa using h1
        rw [if_pos h1] at hro
        have hra : rowAt cs gs j gs[j] = some (j, (pn : Int), gs[j].1[resOf gs[j].1 (rCla cs gs)]?, gs[j].2) := by unfold rowAt; rw [hro]; rfl
        refine ⟨.ref i, rfl, .int (j : Nat), rfl, i, j, cs, gs, gs[j], rfl, (TupK.of s05).dp _ _ (to_dInst _ _) hI, ok, hg, fun H6 s6 => ?_⟩
        have s06 := s05.trans s6
        have hrl := resOf_le gs[j].1 (rCla cs gs)
        refine ⟨.ref Fo, rfl, .inl ⟨rfl, _, SqL.of (s6 _ _ e5)⟩, .int (j : Nat), rfl, .ref pA, rfl, pA, _, 0, .int pn, rfl, rfl, sqS s06 hP, atI_nat (j := 0) h0, .ref pA, rfl, (show (1 : Nat) ≤ sizeLine by decide), fun N nN => ?_⟩
        have sN := sameNew (o := .tup [.non]) nN
        refine ⟨pA, N, _, _, rfl, rfl, sqS (s06.trans sN) hP, SqT.of upd_same, by rw [List.length_map]; have := small (n := gs[j].1.length + 1) (by omega); exact Nat.le_of_lt this, fun h => absurd h (by rw [hps]; simp), fun _ h => absurd h (by simp), fun _ _ C nC => ?_⟩
        have hcv : (gs[j].1.map V.int ++ [.non])[resOf gs[j].1 (rCla cs gs)]? = some (oV gs[j].1[resOf gs[j].1 (rCla cs gs)]?) := by
          by_cases hlt : resOf gs[j].1 (rCla cs gs) < gs[j].1.length
          · rw [List.getElem?_append_left (by rw [List.length_map]; exact hlt), atS hlt, List.getElem?_eq_getElem hlt]; rfl
          · have he : resOf gs[j].1 (rCla cs gs) = gs[j].1.length := by omega
            rw [he, List.getElem?_append_right (by rw [List.length_map]; omega), List.length_map, List.getElem?_eq_none (Nat.le_refl _), Nat.sub_self]; rfl
        have sC := sameNew (o := .tup (gs[j].1.map V.int ++ [.non])) nC
        refine ⟨.int ((resOf gs[j].1 (rCla cs gs) : Nat) : Int), rfl, C, _, _, _, rfl, rfl, SqT.of upd_same, atI_nat hcv, .int gs[j].2, rfl, (show (4 : Nat) ≤ sizeLine by decide), fun T2 nT2 => ?_⟩
        have sT2 := sameNew (o := .tup [.int (j : Nat), .int pn, oV gs[j].1[resOf gs[j].1 (rCla cs gs)]?, .int gs[j].2]) nT2
        have s9 := (s6.trans (sN.trans sC)).trans sT2
        have e9 := s9 _ _ e5
        have hT2 : SqT K _ T2 [.int (j : Nat), .int pn, oV gs[j].1[resOf gs[j].1 (rCla cs gs)]?, .int gs[j].2] := SqT.of (upd_same (H := upd (upd H6 N (.tup [.non])) C (.tup (gs[j].1.map V.int ++ [.non]))))
        generalize upd (upd (upd H6 N (.tup [.non])) C (.tup (gs[j].1.map V.int ++ [.non]))) T2 (.tup [.int (j : Nat), .int pn, oV gs[j].1[resOf gs[j].1 (rCla cs gs)]?, .int gs[j].2]) = H9 at s9 e9 hT2
        have tkp : TupK H9 (upd H9 Fo (.lst (vs ++ [.ref T2]))) := TupK.put e9
        refine ⟨Fo, vs, _, rfl, rfl, e9, small (by omega), _, _, _, _, vs ++ [.ref T2], rfl, samePut (s5.trans s9) nFo, upd_same, ?_⟩
        rw [rsn, hra]
        exact Rl.snoc (hv5.mono fun v r h => (h.same s9).tk tkp) ⟨T2, rfl, tkp.sq hT2⟩
      · have h1 : ¬ cs[pn] < (rDem cs gs)[pn] := by simpa using h1
        rw [if_neg h1] at hro
        refine ⟨_, _, _, _, vs, rfl, s5, e5, ?_⟩
        rw [rsn, show rowAt cs gs j gs[j] = none by unfold rowAt; rw [hro]; rfl]
        simpa using hv5
    rintro σ H3 ⟨y3, y4, y5, y6, vs, rfl, s3, e3, hv3⟩
    rw [lx] at hv3
    exact ⟨_, rfl, q _ Fo vs (s1.trans s3) e3 hv3 fFo⟩
def spLo (K : PySem.W.Frag) : Sp := fun vs H Q _ => ∃ (i : Addr) (cs : List Int) (gs : List Gp), vs = [.ref i] ∧ Dp K H (.ref i) (dInst cs gs) ∧ InsOk cs gs ∧
  ∀ H' T E F, Same H H' → SqT K H' T [.ref E, .ref F] → H' E = some (.lst ((rExc cs gs).map V.int)) → H' F = some (.lst ((rFre cs gs).map V.int)) → H E = none → H F = none → E ≠ F → Q (.ref T) H'
set_option maxHeartbeats 2000000 in
theorem ok_Lo {f fLd : Addr} {fd fdLd : FuncData} (F : Fun K "_law_room" "_law_room" sLo f fd)
    (FLd : Fun K "_law_demand" "_law_demand" sLd fLd fdLd) (bLd : Binds K fdLd ["_law_instance_here"] []) (gLd : mg "_law_demand" = some (.ref fLd)) (GLd : FnOk P w K mg base CX0 1 fLd fdLd ["_law_instance_here"] (spLd K))
    (m_zip : mg "zip" = none) (m_max : mg "max" = none) :
    FnOk P w K mg base CX0 2 f fd ["_law_instance_here"] (spLo K) := by
  refine F.ok scLo (fun vs H Q E h => ?_) (fun cdv A outer s H vs Q E hr h => ?_)
  · obtain ⟨i, cs, gs, rfl, _⟩ := h; rfl
  · obtain ⟨i, cs, gs, rfl, hI, ok, q⟩ := h
    refine ⟨_, pss_cons (ps_set (i := 1) scLo.nd rfl (.inl rfl) (pe_call GLd (hr.mono (by omega)) (by rfl) gLd FLd.kp bLd .nil pass0 (pa_cons (pv 0) pa_nil)))
      (pss_cons (ps_setLc (i := 2) (own := [("_law_many", 3), ("_law_capacity", 4)]) (g := gTup K 2 (gCons (gName 3) (gCons (gName 4) gNil))) (tt := tYes) (te := tCB (fun xs H Q => ∃ i j, xs = [.int i, .int j] ∧ Q (.int (if j > i then j else i)) H) (tCons (tC (.int 0)) (tCons (tOp (rI0 fun i j => .int (i - j)) (tVar 3) (tVar 4)) tNil))) rfl scLo.nd rfl rfl (sw_true rfl rfl rfl (by decide +kernel)) (pi_zipM (by rfl) m_zip (pa_cons (pv 1) (pa_cons (pe_ix ix_tup (pv 0) (pe_int) (fun _ _ => rfl)) pa_nil))) (blkOk_by (N := ["_law_instance_here", "_law_demand_here", "_law_excess", "_law_many", "_law_capacity"]) (sc := defScope sLo) (by decide +kernel)) (fun _ _ _ _ _ => pg_tup rfl (pgs_cons (pg_name (i := 3) scLo.nd rfl (.inl rfl)) (pgs_cons (pg_name (i := 4) scLo.nd rfl (.inl rfl)) pgs_nil))) (fun _ _ _ _ _ => pts_nil) (fun _ _ _ _ _ => pe_callB (call_max2 rfl) (by rfl) m_max (by decide +kernel) (pa_cons (pe_int) (pa_cons (pe_op op_sub (pv 3) (pv 4)) pa_nil))))
      (pss_one (ps_ret (pe_tup (pa_cons (pv 2) (pa_cons (pe_lc (own := [("_law_many", 3), ("_law_capacity", 4)]) (g := gTup K 2 (gCons (gName 3) (gCons (gName 4) gNil))) (tt := tYes) (te := tCB (fun xs H Q => ∃ i j, xs = [.int i, .int j] ∧ Q (.int (if j > i then j else i)) H) (tCons (tC (.int 0)) (tCons (tOp (rI0 fun i j => .int (i - j)) (tVar 4) (tVar 3)) tNil))) rfl scLo.nd (pi_zipM (by rfl) m_zip (pa_cons (pv 1) (pa_cons (pe_ix ix_tup (pv 0) (pe_int) (fun _ _ => rfl)) pa_nil))) (blkOk_by (N := ["_law_instance_here", "_law_demand_here", "_law_excess", "_law_many", "_law_capacity"]) (sc := defScope sLo) (by decide +kernel)) (fun _ _ _ _ _ => pg_tup rfl (pgs_cons (pg_name (i := 3) scLo.nd rfl (.inl rfl)) (pgs_cons (pg_name (i := 4) scLo.nd rfl (.inl rfl)) pgs_nil))) (fun _ _ _ _ _ => pts_nil) (fun _ _ _ _ _ => pe_callB (call_max2 rfl) (by rfl) m_max (by decide +kernel) (pa_cons (pe_int) (pa_cons (pe_op op_sub (pv 4) (pv 3)) pa_nil)))) pa_nil)))))), ?_⟩
    obtain ⟨_, ca, ga, xs, e, hi, hc, hgt, hgs⟩ := inst_open hI
    cases e
    have h6 := ok.c6
    have hdl := rDem_len cs gs
    refine ⟨.ref i, rfl, i, cs, gs, rfl, hI, ok, fun H1 Dm s1 eD nD0 => ?_⟩
    refine ⟨.ref Dm, rfl, .ref i, rfl, i, _, 0, .ref ca, rfl, rfl, sqS s1 hi, atI_nat (j := 0) rfl, Dm, ca, _, _, rfl, SqL.of eD, sqS s1 hc, fun D nD => lc_it (walk_zipM (K := K) (a := Dm) (b := ca) (xs := (rDem cs gs).map V.int) (ys := cs.map V.int) rfl)
      (LcP H1 D ((rDem cs gs).zip cs) (fun z => some (.int (mx (z.1 - z.2))))) (.start nD) (fun j H2 _ h => ⟨SqL.of (h.1 _ _ eD), sqS (s1.trans h.1) hc⟩) ?_ ?_⟩
    · rintro j v H2 H3 hlt hL ⟨T, x, y, rfl, nT, rfl, ex, ey⟩
      rw [List.length_map, List.length_map] at hlt
      have hj1 : j < (rDem cs gs).length := by omega
      have hj2 : j < cs.length := by omega
      have ex : ((rDem cs gs).map V.int)[j]? = some x := ex
      have ey : (cs.map V.int)[j]? = some y := ey
      rw [atS hj1] at ex
      rw [atS hj2] at ey
      cases ex
      cases ey
      have hz : ((rDem cs gs).zip cs)[j]? = some ((rDem cs gs)[j], cs[j]) := by rw [List.getElem?_zip_eq_some]; exact ⟨List.getElem?_eq_getElem hj1, List.getElem?_eq_getElem hj2⟩
      refine ⟨T, _, rfl, SqT.of upd_same, rfl, _, _, rfl, _, _, rfl, rfl, rfl, .int (rDem cs gs)[j], rfl, .int cs[j], rfl, _, _, rfl, rfl, _, _, rfl, hL.yes nD (sameNew nT) hz rfl (by omega)⟩
    rintro H2 hL
    have e2 := hL.done (by rw [List.length_zip, List.length_map, List.length_map]; exact Nat.le_refl _)
    rw [fm_map, exc_zip] at e2
    have s2 := s1.trans hL.1
    refine ⟨_, rfl, .ref Dm, rfl, .ref i, rfl, i, _, 0, .ref ca, rfl, rfl, sqS s2 hi, atI_nat (j := 0) rfl, Dm, ca, _, _, rfl, SqL.of (hL.1 _ _ eD), sqS s2 hc, fun D2 nD2 => lc_it (walk_zipM (K := K) (a := Dm) (b := ca) (xs := (rDem cs gs).map V.int) (ys := cs.map V.int) rfl)
      (LcP H2 D2 ((rDem cs gs).zip cs) (fun z => some (.int (mx (z.2 - z.1))))) (.start nD2) (fun j H3 _ h => ⟨SqL.of (h.1 _ _ (hL.1 _ _ eD)), sqS (s2.trans h.1) hc⟩) ?_ ?_⟩
    · rintro j v H3 H4 hlt hM ⟨T, x, y, rfl, nT, rfl, ex, ey⟩
      rw [List.length_map, List.length_map] at hlt
      have hj1 : j < (rDem cs gs).length := by omega
      have hj2 : j < cs.length := by omega
      have ex : ((rDem cs gs).map V.int)[j]? = some x := ex
      have ey : (cs.map V.int)[j]? = some y := ey
      rw [atS hj1] at ex
      rw [atS hj2] at ey
      cases ex
      cases ey
      have hz : ((rDem cs gs).zip cs)[j]? = some ((rDem cs gs)[j], cs[j]) := by rw [List.getElem?_zip_eq_some]; exact ⟨List.getElem?_eq_getElem hj1, List.getElem?_eq_getElem hj2⟩
      refine ⟨T, _, rfl, SqT.of upd_same, rfl, _, _, rfl, _, _, rfl, rfl, rfl, .int cs[j], rfl, .int (rDem cs gs)[j], rfl, _, _, rfl, rfl, _, _, rfl, hM.yes nD2 (sameNew nT) hz rfl (by omega)⟩
    rintro H3 hM
    have e3 := hM.done (by rw [List.length_zip, List.length_map, List.length_map]; exact Nat.le_refl _)
    rw [fm_map, fre_zip] at e3
    have eE3 := hM.1 _ _ e2
    refine ⟨(show (2 : Nat) ≤ sizeLine by decide), fun T nT => ?_⟩
    have sT := sameNew (o := .tup [.ref D, .ref D2]) nT
    have fr : ∀ {p : Addr}, H1 p = none → H p = none := fun {p} np => by
      cases e : H p with
      | none => rfl
      | some o => have := s1 _ _ e; rw [np] at this; cases this
    have fr2 : H1 D2 = none := by
      cases e : H1 D2 with
      | none => rfl
      | some o => have := hL.1 _ _ e; rw [nD2] at this; cases this
    exact q _ T D D2 ((s2.trans hM.1).trans sT) (SqT.of upd_same) (sT _ _ eE3) (sT _ _ e3) (fr nD) (fr fr2) (ne_of_none e2 nD2)
end
end Pv

namespace Pv
open PySem PySem.Spec PyProof.Rows L2
def subL (a b : List Int) : List Int := List.zipWith (fun x y => x - y) a b
theorem subL_len {a b : List Int} (h : a.length = b.length) : (subL a b).length = a.length := by simp [subL, h]
theorem sub_add {a b : List Int} {p : Nat} {x : Int} (hab : a.length = b.length) (hp : p < (subL a b).length) : subL a (addAt b (p : Int) x) = (subL a b).set p ((subL a b)[p] - x) := by
  have hpb : p < b.length := by rw [subL_len hab] at hp; omega
  unfold addAt
  rw [Int.toNat_natCast]
  apply List.ext_getElem
  · simp [subL, hab]
  · intro n h1 h2
    simp only [subL, List.getElem_zipWith, List.getElem_set]
    by_cases h : p = n
    · subst h; simp [hpb]; omega
    · simp [h]
theorem sub_zero (a : List Int) : subL a (zeros a.length) = a := by
  induction a with
  | nil => rfl
  | cons x a ih => simp [subL, zeros, List.replicate_succ] at ih ⊢; exact ih
theorem sub_eq : ∀ {a b : List Int}, a.length = b.length → ((subL a b).filter (fun x => !decide (x = 0))).isEmpty = decide (b = a)
  | [], [], _ => by simp [subL]
  | [], _ :: _, h => by simp at h
  | _ :: _, [], h => by simp at h
  | x :: a, y :: b, h => by
    have ih := sub_eq (a := a) (b := b) (by simpa using h)
    unfold subL at ih ⊢
    rw [List.zipWith_cons_cons]
    by_cases e : x - y = 0
    · have e2 : y = x := by omega
      rw [List.filter_cons_of_neg (by simp [e]), ih]
      simp [e2]
    · have e2 : ¬ y = x := by omega
      rw [List.filter_cons_of_pos (by simp [e])]
      simp [e2]
theorem sub_le : ∀ {a b : List Int}, a.length = b.length → ((subL a b).filter (fun x => decide (x < 0))).isEmpty = (b.zip a).all (fun z => decide (z.1 ≤ z.2))
  | [], [], _ => by simp [subL]
  | [], _ :: _, h => by simp at h
  | _ :: _, [], h => by simp at h
  | x :: a, y :: b, h => by
    have ih := sub_le (a := a) (b := b) (by simpa using h)
    unfold subL at ih ⊢
    rw [List.zipWith_cons_cons]
    by_cases e : x - y < 0
    · have e2 : ¬ y ≤ x := by omega
      rw [List.filter_cons_of_pos (by simp [e])]
      simp [e2]
    · have e2 : y ≤ x := by omega
      rw [List.filter_cons_of_neg (by simp [e]), ih]
      simp [e2]
def stepR (xs : List Int) (st : List Int × List Int) (r : Rw) : List Int × List Int := mvStep st (some (r.2.1, r.2.2.1), xs.getD r.1 0)
def mvR (n : Nat) (xs : List Int) (rows : List Rw) : List Int × List Int := rows.foldl (stepR xs) (zeros n, zeros n)
theorem mvR_snoc (n : Nat) (xs : List Int) (rows : List Rw) (r : Rw) : mvR n xs (rows ++ [r]) = stepR xs (mvR n xs rows) r := by simp [mvR, List.foldl_append]
theorem mvR_len (n : Nat) (xs : List Int) (rows : List Rw) : (mvR n xs rows).1.length = n ∧ (mvR n xs rows).2.length = n := by
  have : ∀ (rows : List Rw) (s : List Int × List Int), s.1.length = n → s.2.length = n → (rows.foldl (stepR xs) s).1.length = n ∧ (rows.foldl (stepR xs) s).2.length = n := by
    intro rows
    induction rows with
    | nil => intro s h1 h2; exact ⟨h1, h2⟩
    | cons z zs ih =>
      intro s h1 h2
      refine ih _ ?_ ?_
      · simp only [stepR, mvStep, addAt_len]; exact h1
      · simp only [stepR, mvStep]; split
        · rw [addAt_len]; exact h2
        · exact h2
  exact this rows _ (by simp [zeros]) (by simp [zeros])
theorem zs_at {cs : List Int} {gs : List Gp} {xs : List Int} (hl : xs.length = gs.length) {j : Nat} (hj : j < gs.length) : (zsOf cs gs xs)[j]? = some (routeOf cs gs gs[j], xs[j]) := by
  unfold zsOf
  rw [List.getElem?_zip_eq_some]
  exact ⟨by rw [List.getElem?_map, List.getElem?_eq_getElem hj]; rfl, List.getElem?_eq_getElem (by omega)⟩
theorem mvR_all {cs : List Int} {gs : List Gp} {xs : List Int} (hl : xs.length = gs.length) : mvR cs.length xs (rowsTo cs gs gs.length) = mvOf cs.length (zsOf cs gs xs) := by
  have key : ∀ n, n ≤ gs.length → mvR cs.length xs (rowsTo cs gs n) = mvOf cs.length ((zsOf cs gs xs).take n) := by
    intro n
    induction n with
    | zero => intro _; rfl
    | succ n ih =>
      intro h
      have hg : gs[n]? = some gs[n] := List.getElem?_eq_getElem (by omega)
      rw [rowsTo_succ hg, take_snoc (zs_at hl (by omega)), mvOf_snoc, ← ih (by omega)]
      unfold rowAt
      cases hr : routeOf cs gs gs[n] with
      | none => simp [mvStep]
      | some r =>
        show mvR cs.length xs (rowsTo cs gs n ++ [(n, r.1, r.2, gs[n].2)]) = _
        rw [mvR_snoc]
        unfold stepR
        simp only
        rw [List.getD_eq_getElem?_getD, List.getElem?_eq_getElem (show n < xs.length by omega)]
        rfl
  have := key gs.length (Nat.le_refl _)
  rw [List.take_of_length_le (by unfold zsOf; rw [List.length_zip, List.length_map]; omega)] at this
  exact this
theorem row_mem {cs : List Int} {gs : List Gp} {n : Nat} {r : Rw} (h : r ∈ rowsTo cs gs n) : ∃ g, gs[r.1]? = some g ∧ routeOf cs gs g = some (r.2.1, r.2.2.1) ∧ r.1 < n := by
  unfold rowsTo at h
  rw [List.mem_filterMap] at h
  obtain ⟨j, hj, e⟩ := h
  rw [Option.bind_eq_some_iff] at e
  obtain ⟨g, hg, e⟩ := e
  unfold rowAt at e
  obtain ⟨q, hq, e⟩ := Option.map_eq_some_iff.mp e
  subst e
  exact ⟨g, hg, hq, List.mem_range.mp hj⟩
theorem rows_has {cs : List Int} {gs : List Gp} {n k : Nat} (hk : k < n) (hkg : k < gs.length) : ((rowsTo cs gs n).map (fun r => (r.1 : Int))).contains (k : Int) = (routeOf cs gs gs[k]).isSome := by
  rw [Bool.eq_iff_iff, List.contains_iff_mem]
  constructor
  · intro h
    obtain ⟨r, hr, e⟩ := List.mem_map.mp h
    obtain ⟨g, hg, hq, _⟩ := row_mem hr
    have e : r.1 = k := by have e : (r.1 : Int) = k := e; omega
    rw [e, List.getElem?_eq_getElem hkg] at hg
    cases hg
    rw [hq]; rfl
  · intro h
    obtain ⟨q, hq⟩ := Option.isSome_iff_exists.mp h
    refine List.mem_map.mpr ⟨(k, q.1, q.2, gs[k].2), ?_, rfl⟩
    unfold rowsTo
    rw [List.mem_filterMap]
    refine ⟨k, List.mem_range.mpr hk, ?_⟩
    rw [List.getElem?_eq_getElem hkg]
    unfold rowAt
    show Option.map _ (routeOf cs gs gs[k]) = _
    rw [hq]; rfl
def othOf (cs : List Int) (gs : List Gp) (n : Nat) : List Nat := (List.range n).filter (fun k => !((rowsTo cs gs gs.length).map (fun r => (r.1 : Int))).contains (k : Int))
theorem oth_good {cs : List Int} {gs : List Gp} {xs : List Int} (hl : xs.length = gs.length) : (((othOf cs gs xs.length).map (fun (k : Nat) => (k : Int))).filter (fun k => !decide (xs.getD k.toNat 0 = 0))).isEmpty = (zsOf cs gs xs).all goodZ := by
  rw [Bool.eq_iff_iff, List.isEmpty_iff, List.filter_eq_nil_iff, List.all_eq_true]
  constructor
  · intro h z hz
    obtain ⟨k, hk, e⟩ := List.mem_iff_getElem.mp hz
    have hkg : k < gs.length := by have := hk; unfold zsOf at this; rw [List.length_zip, List.length_map] at this; omega
    have e2 := zs_at (cs := cs) hl hkg
    rw [List.getElem?_eq_getElem hk, e] at e2
    cases e2
    unfold goodZ
    cases hr : routeOf cs gs gs[k] with
    | some r => rfl
    | none =>
      have := h (k : Int) (List.mem_map.mpr ⟨k, ?_, rfl⟩)
      · rw [Int.toNat_natCast, List.getD_eq_getElem?_getD, List.getElem?_eq_getElem (show k < xs.length by omega)] at this
        simpa using this
      · unfold othOf
        rw [List.mem_filter]
        refine ⟨List.mem_range.mpr (by omega), ?_⟩
        rw [rows_has hkg hkg, hr]; rfl
  · intro h k hk0
    obtain ⟨k, hk, rfl⟩ := List.mem_map.mp hk0
    unfold othOf at hk
    rw [List.mem_filter, List.mem_range] at hk
    have hkg : k < gs.length := by omega
    rw [rows_has hkg hkg] at hk
    have := h _ (List.mem_of_getElem? (zs_at (cs := cs) hl hkg))
    unfold goodZ at this
    rw [Int.toNat_natCast, List.getD_eq_getElem?_getD, List.getElem?_eq_getElem (show k < xs.length by omega)]
    cases hr : routeOf cs gs gs[k] with
    | some r => rw [hr] at hk; simp at hk
    | none => rw [hr] at this; simpa using this
theorem meets_by {cs : List Int} {gs : List Gp} {xs : List Int} (hl : xs.length = gs.length) : meetsD cs gs xs =
    ((((othOf cs gs xs.length).map (fun (k : Nat) => (k : Int))).filter (fun k => !decide (xs.getD k.toNat 0 = 0))).isEmpty && ((subL (rExc cs gs) (mvR cs.length xs (rowsTo cs gs gs.length)).1).filter (fun x => !decide (x = 0))).isEmpty && ((subL (rFre cs gs) (mvR cs.length xs (rowsTo cs gs gs.length)).2).filter (fun x => decide (x < 0))).isEmpty) := by
  have hm := mvOf_len cs.length (zsOf cs gs xs)
  rw [mvR_all hl, oth_good hl, sub_eq (by rw [rExc_len, hm.1]), sub_le (by rw [rFre_len, hm.2])]
  rfl
theorem oth_mem {cs : List Int} {gs : List Gp} {n : Nat} {k : Int} (h : k ∈ (othOf cs gs n).map (fun (k : Nat) => (k : Int))) : ∃ m : Nat, k = m ∧ m < n := by
  obtain ⟨m, hm, rfl⟩ := List.mem_map.mp h
  unfold othOf at hm
  rw [List.mem_filter, List.mem_range] at hm
  exact ⟨m, rfl, hm.1⟩
end Pv

namespace Pv
open PySem PySem.Spec PyProof.Rows L2
abbrev sLv : Stmt := topS 27
theorem scLv : FnScope ["_law_instance_here", "_law_value", "_law_groups", "_law_number", "_law_group", "_law_excess", "_law_free", "_law_rows_here", "_law_first", "_law_second", "_law_count", "_law_others", "_law_k", "_law_many", "_law_row"] ["_law_instance_here", "_law_value"] (defScope sLv) := ⟨rfl, rfl, rfl, by decide +kernel, rfl, by decide +kernel, by decide +kernel⟩
section
variable {P : Program} {w : World} {K : PySem.W.Frag} {mg : Str → Option Value} {base : Heap}
set_option maxHeartbeats 4000000 in
theorem ok_Lv {f fLo fLw : Addr} {fd fdLo fdLw : FuncData} (F : Fun K "_law_is_vector" "_law_is_vector" sLv f fd)
    (FLo : Fun K "_law_room" "_law_room" sLo fLo fdLo) (bLo : Binds K fdLo ["_law_instance_here"] []) (gLo : mg "_law_room" = some (.ref fLo)) (GLo : FnOk P w K mg base CX0 2 fLo fdLo ["_law_instance_here"] (spLo K))
    (FLw : Fun K "_law_rows" "_law_rows" sLw fLw fdLw) (bLw : Binds K fdLw ["_law_instance_here"] []) (gLw : mg "_law_rows" = some (.ref fLw)) (GLw : FnOk P w K mg base CX0 3 fLw fdLw ["_law_instance_here"] (spLw K))
    (m_tuple : mg "tuple" = none) (m_isinstance : mg "isinstance" = none) (m_len : mg "len" = none) (m_zip : mg "zip" = none) (m_bool : mg "bool" = none) (m_int : mg "int" = none) (m_range : mg "range" = none) :
    FnOk P w K mg base CX0 4 f fd ["_law_instance_here", "_law_value"] (spIv K) := by
  refine F.ok scLv (fun vs H Q E h => ?_) (fun cdv A outer s H vs Q E hr h => ?_)
  · obtain ⟨st, r, i, v, cs, gs, d, rfl, _⟩ := h; rfl
  · obtain ⟨st, r, i, v, cs, gs, d, rfl, hI, ok, hv, q⟩ := h
    have hu64 : (A.deeper (envOfC "_law_is_vector" (defScope sLv) s.heap.objs.size f cdv)).units + 64 < cLine := by have := hr.un; omega
    refine ⟨_, pss_cons (ps_set (i := 2) scLv.nd rfl (.inl rfl) (pe_ix ix_tup (pv 0) (pe_int) (fun _ _ => rfl)))
      (pss_cons (ps_if (PW.pt (pw_or (pt_not (pt_val (pe_callB call_isi (by rfl) m_isinstance (by decide +kernel) (pa_cons (pv 1) (pa_cons (pe_bltn (v := .ty "tuple") (by rfl) m_tuple (by decide +kernel) rfl) pa_nil))))) (pw_or1 (pt_cmpR op_ne (pe_callB call_lenQ (by rfl) m_len PySem.boot_len (pa_cons (pv 1) pa_nil)) (pe_callB call_lenQ (by rfl) m_len PySem.boot_len (pa_cons (pv 2) pa_nil)) (nomark _)))))
        (pss_one (ps_ret (pe_bl))) pss_nil)
      (pss_cons (ps_for PassesOwn.never rfl (RZ.pi_zipA (by rfl) m_zip (pa_cons (pv 1) (pa_cons (pv 2) pa_nil))) (pg_tup rfl (pgs_cons (pg_name (i := 3) scLv.nd rfl (.inl rfl)) (pgs_cons (pg_name (i := 4) scLv.nd rfl (.inl rfl)) pgs_nil)))
        (pss_one (ps_if (PW.pt (pw_or (pt_val (pe_callB call_isi (by rfl) m_isinstance (by decide +kernel) (pa_cons (pv 3) (pa_cons (pe_bltn (v := .ty "bool") (by rfl) m_bool (by decide +kernel) rfl) pa_nil)))) (pw_or (pt_not (pt_val (pe_callB call_isi (by rfl) m_isinstance (by decide +kernel) (pa_cons (pv 3) (pa_cons (pe_bltn (v := .ty "int") (by rfl) m_int (by decide +kernel) rfl) pa_nil))))) (pw_or1 (pt_not (pt_chain op_le op_le (pe_int) (pv 3) (pe_ix ix_tup (pv 4) (pe_int) (fun _ _ => rfl))))))))
          (pss_one (ps_ret (pe_bl))) pss_nil)))
      (pss_cons (ps_asg (pe_call GLo (hr.mono (by omega)) (by rfl) gLo FLo.kp bLo .nil pass0 (pa_cons (pv 0) pa_nil)) (pg_tup rfl (pgs_cons (pg_name (i := 5) scLv.nd rfl (.inl rfl)) (pgs_cons (pg_name (i := 6) scLv.nd rfl (.inl rfl)) pgs_nil))))
      (pss_cons (ps_set (i := 7) scLv.nd rfl (.inr rfl) (pe_call GLw (hr.mono (by omega)) (by rfl) gLw FLw.kp bLw .nil pass0 (pa_cons (pv 0) pa_nil)))
      (pss_cons (ps_for PassesOwn.never rfl (pi_list (pv 7)) (pg_tup rfl (pgs_cons (pg_name (i := 4) scLv.nd rfl (.inl rfl)) (pgs_cons (pg_name (i := 8) scLv.nd rfl (.inl rfl)) (pgs_cons (pg_name (i := 9) scLv.nd rfl (.inl rfl)) (pgs_cons (pg_name (i := 10) scLv.nd rfl (.inl rfl)) pgs_nil)))))
        (pss_cons (ps_asg (pe_op op_sub (pe_ix ix_list (pv 5) (pv 8) (fun _ _ => rfl)) (pe_ix ix_tup (pv 1) (pv 4) (fun _ _ => rfl))) (pg_sub (pv 5) (pv 8) set_list))
        (pss_one (ps_if (pt_cmp (pc_notN (pv 9)))
          (pss_one (ps_asg (pe_op op_sub (pe_ix ix_list (pv 6) (pv 9) (fun _ _ => rfl)) (pe_ix ix_tup (pv 1) (pv 4) (fun _ _ => rfl))) (pg_sub (pv 6) (pv 9) set_list))) pss_nil))))
      (pss_cons (ps_setLc (i := 11) (own := [("_law_k", 12)]) (g := gName 12) (tt := tTest (tOp (rIn K true) (tVar 12) (tLc (iList K (tVar 7)) (gName 14) (tYes) (tOp (rIxT K) (tVar 14) (tC (.int 0))) [14]))) (te := tVar 12) rfl scLv.nd rfl rfl (sw_true rfl rfl rfl (by decide +kernel)) (pi_range1 (by rfl) m_range (pa_cons (pe_callB call_lenQ (by rfl) m_len PySem.boot_len (pa_cons (pv 1) pa_nil)) pa_nil)) (blkOk_by (N := ["_law_instance_here", "_law_value", "_law_groups", "_law_number", "_law_group", "_law_excess", "_law_free", "_law_rows_here", "_law_first", "_law_second", "_law_count", "_law_others", "_law_k", "_law_many", "_law_row"]) (sc := defScope sLv) (by decide +kernel)) (fun _ _ _ _ _ => pg_name (i := 12) scLv.nd rfl (.inl rfl)) (fun _ _ _ _ _ => pts_one (pt_cmpR op_notIn_seq (pv 12) (pe_lc (own := [("_law_row", 14)]) (g := gName 14) (tt := tYes) (te := tOp (rIxT K) (tVar 14) (tC (.int 0))) rfl scLv.nd (pi_list (pv 7)) (blkOk_by (N := ["_law_instance_here", "_law_value", "_law_groups", "_law_number", "_law_group", "_law_excess", "_law_free", "_law_rows_here", "_law_first", "_law_second", "_law_count", "_law_others", "_law_k", "_law_many", "_law_row"]) (sc := { kind := .function, names := [(".0", .local), ("_law_k", .local), ("_law_rows_here", .cell)], isGenerator := false, isCoroutine := false }) (by decide +kernel)) (fun _ _ _ _ _ => pg_name (i := 14) scLv.nd rfl (.inl rfl)) (fun _ _ _ _ _ => pts_nil) (fun _ _ _ _ _ => pe_ix ix_tup (pv 14) (pe_int) (fun _ _ => rfl))) (by rfl))) (fun _ _ _ _ _ => pv 12))
      (pss_cons (ps_if (PW.pt (pw_or (pt_cmpR (op_neD hu64) (pe_lc (own := [("_law_k", 12)]) (g := gName 12) (tt := tTest (tOp rNe (tOp (rIxT K) (tVar 1) (tVar 12)) (tC (.int 0)))) (te := tVar 12) rfl scLv.nd (pi_list (pv 11)) (blkOk_by (N := ["_law_instance_here", "_law_value", "_law_groups", "_law_number", "_law_group", "_law_excess", "_law_free", "_law_rows_here", "_law_first", "_law_second", "_law_count", "_law_others", "_law_k", "_law_many", "_law_row"]) (sc := defScope sLv) (by decide +kernel)) (fun _ _ _ _ _ => pg_name (i := 12) scLv.nd rfl (.inl rfl)) (fun _ _ _ _ _ => pts_one (pt_cmpR op_ne (pe_ix ix_tup (pv 1) (pv 12) (fun _ _ => rfl)) (pe_int) (nomark _))) (fun _ _ _ _ _ => pv 12)) (pe_lst (pa_nil)) (nomark _)) (pw_or1 (pt_cmpR (op_neD hu64) (pe_lc (own := [("_law_many", 13)]) (g := gName 13) (tt := tTest (tOp rNe (tVar 13) (tC (.int 0)))) (te := tVar 13) rfl scLv.nd (pi_list (pv 5)) (blkOk_by (N := ["_law_instance_here", "_law_value", "_law_groups", "_law_number", "_law_group", "_law_excess", "_law_free", "_law_rows_here", "_law_first", "_law_second", "_law_count", "_law_others", "_law_k", "_law_many", "_law_row"]) (sc := defScope sLv) (by decide +kernel)) (fun _ _ _ _ _ => pg_name (i := 13) scLv.nd rfl (.inl rfl)) (fun _ _ _ _ _ => pts_one (pt_cmpR op_ne (pv 13) (pe_int) (nomark _))) (fun _ _ _ _ _ => pv 13)) (pe_lst (pa_nil)) (nomark _)))))
        (pss_one (ps_ret (pe_bl))) pss_nil)
      (pss_one (ps_ret (pe_cmpR (op_eqD hu64) (pe_lc (own := [("_law_many", 13)]) (g := gName 13) (tt := tTest (tOp (rI0 fun i j => .bl (decide (i < j))) (tVar 13) (tC (.int 0)))) (te := tVar 13) rfl scLv.nd (pi_list (pv 6)) (blkOk_by (N := ["_law_instance_here", "_law_value", "_law_groups", "_law_number", "_law_group", "_law_excess", "_law_free", "_law_rows_here", "_law_first", "_law_second", "_law_count", "_law_others", "_law_k", "_law_many", "_law_row"]) (sc := defScope sLv) (by decide +kernel)) (fun _ _ _ _ _ => pg_name (i := 13) scLv.nd rfl (.inl rfl)) (fun _ _ _ _ _ => pts_one (pt_cmpR op_lt (pv 13) (pe_int) (nomark _))) (fun _ _ _ _ _ => pv 13)) (pe_lst (pa_nil)) (nomark _))))))))))), ?_⟩
    obtain ⟨_, ca, ga, ys, e, hi, hc, hgt, hgs⟩ := inst_open hI
    cases e
    have lx := DpAll.len hgs
    rw [List.length_map] at lx
    have h6 := ok.c6
    have h10 := ok.g10
    refine ⟨.ref i, rfl, i, _, 1, .ref ga, rfl, rfl, hi, atI_nat (j := 1) rfl, ?_⟩
    refine ⟨v, rfl, v, .ty "tuple", _, _, _, rfl, .ty _, hv.ty, kit_tup d, _, rfl, ?_⟩
    by_cases hd0 : isTup d = true
    case neg =>
      refine iteTT (by simpa using hd0) ?_
      have : isVecD cs gs d = false := by
        unfold isVecD
        cases d with
        | tuple ds => exact absurd rfl hd0
        | _ => rfl
      rw [this] at q
      exact iteT (q _ (Same.refl _))
    obtain ⟨ds, rfl⟩ : ∃ ds, d = .tuple ds := by
      cases d with
      | tuple ds => exact ⟨ds, rfl⟩
      | _ => simp [isTup] at hd0
    obtain ⟨b, rfl, zs, hB, hzs⟩ : ∃ b, v = .ref b ∧ ∃ zs, SqT K H b zs ∧ DqAll K st r H zs ds := by
      cases hv with
      | tup h1 h2 => exact ⟨_, rfl, _, h1, h2⟩
    have lzs := DqAll.len hzs
    refine iteFF (by simp [isTup]) ?_
    refine ⟨.ref b, rfl, b, _, rfl, .inr hB, .ref ga, rfl, ga, _, rfl, .inr hgt, rfl, _, rfl, ite2 (fun h1 => ?_) (fun h1 => ?_)⟩
    · have h1 : ¬ ds.length = gs.length := by simp at h1; omega
      have : isVecD cs gs (.tuple ds) = false := by
        have h2 : tupOfD (gs.length : Nat) (gs.length : Nat) (.tuple ds) = false := decide_eq_false (by omega)
        unfold isVecD
        rw [h2]; rfl
      rw [this] at q
      exact q _ (Same.refl _)
    have hdl : ds.length = gs.length := by simp at h1; omega
    have hb : tupOfD (gs.length : Nat) (gs.length : Nat) (.tuple ds) = true := by unfold tupOfD; exact decide_eq_true (by omega)
    have isv : isVecD cs gs (.tuple ds) = ((gs.zip ds).all (fun z => withinD 0 z.1.2 z.2) && meetsD cs gs (ds.map intAt)) := by unfold isVecD; rw [hb]; rfl
    refine ⟨.ref b, rfl, .ref ga, rfl, b, ga, _, _, rfl, .inr ⟨hB, hgt, for_it (walk_zipT (K := K) (a := b) (b := ga) (xs := zs) (ys := ys) rfl)
      (fun j σ H2 => ∃ (y3 y4 : Option V), σ = [some (.ref i), some (.ref b), some (.ref ga), y3, y4, none, none, none, none, none, none, none, none, none, none] ∧ Same H H2 ∧ ∀ k, k < j → ∀ (g : Gp) (d : PyData), gs[k]? = some g → ds[k]? = some d → withinD 0 g.2 d = true)
      ⟨none, none, rfl, Same.refl _, fun k h => by omega⟩ (fun j σ H2 _ h => by obtain ⟨_, _, _, s2, _⟩ := h; exact ⟨sqS s2 hB, sqS s2 hgt⟩) ?_ ?_⟩⟩
    · rintro j x σ H2 H3 hlt ⟨y3, y4, rfl, s2, hw⟩ ⟨T, x0, y0, rfl, nT, rfl, ex, ey⟩
      have hj : j < gs.length := by omega
      have hg : gs[j]? = some gs[j] := List.getElem?_eq_getElem hj
      have ex : zs[j]? = some x0 := ex
      have ey : ys[j]? = some y0 := ey
      obtain ⟨gA, pA, hx, hG, hP⟩ := grp_at hgs hg
      rw [hx] at ey
      cases ey
      obtain ⟨dy, hdy, hyd⟩ := DqAll.at hzs ex
      have sT := sameNew (o := .tup [x0, .ref gA]) nT
      have s3 := s2.trans sT
      have hyd3 := hyd.lasts (.of s3)
      have hq : (gs.zip ds)[j]? = some (gs[j], dy) := by rw [List.getElem?_zip_eq_some]; exact ⟨hg, hdy⟩
      have bad : withinD 0 gs[j].2 dy = false → isVecD cs gs (.tuple ds) = false := by
        intro h
        rw [isv]
        have : (gs.zip ds).all (fun z => withinD 0 z.1.2 z.2) = false := by
          rw [List.all_eq_false]
          exact ⟨_, List.mem_of_getElem? hq, by simp [h]⟩
        rw [this]; rfl
      have good : withinD 0 gs[j].2 dy = true → ∀ k, k < j + 1 → ∀ (g : Gp) (d : PyData), gs[k]? = some g → ds[k]? = some d → withinD 0 g.2 d = true := by
        intro h k hk g d h1 h2
        by_cases hkj : k < j
        · exact hw k hkj g d h1 h2
        · have : k = j := by omega
          subst this
          rw [hg] at h1
          rw [hdy] at h2
          cases h1
          cases h2
          exact h
      refine ⟨T, _, rfl, SqT.of upd_same, rfl, _, _, rfl, _, _, rfl, rfl, ?_⟩
      refine ⟨x0, rfl, x0, .ty "bool", _, _, _, rfl, .ty _, hyd3.ty, kit_bool dy, _, rfl, ?_⟩
      by_cases hbo : isBool dy = true
      · refine iteTT hbo ?_
        rw [bad (by cases dy with | bool _ => rfl | _ => simp [isBool] at hbo)] at q
        exact iteT (q _ s3)
      refine iteFF (by simpa using hbo) ?_
      refine ⟨x0, rfl, x0, .ty "int", _, _, _, rfl, .ty _, hyd3.ty, kit_int dy, _, rfl, ?_⟩
      by_cases hin : isInt dy = true
      case neg =>
        refine iteTT (by simpa using hin) ?_
        rw [bad (by cases dy with | int _ => simp [isInt] at hin | _ => rfl)] at q
        exact iteT (q _ s3)
      obtain ⟨xi, rfl⟩ : ∃ xi, dy = .int xi := by
        cases dy with
        | int x => exact ⟨x, rfl⟩
        | bool _ => simp [isBool] at hbo
        | _ => simp [isInt] at hin
      cases hyd3
      refine iteFF rfl ?_
      refine ⟨.int xi, rfl, _, _, rfl, rfl, _, rfl, ?_⟩
      by_cases h0 : (0 : Int) ≤ xi
      case neg =>
        refine iteFF (decide_eq_false h0) ?_
        rw [bad (by simp [withinD, h0])] at q
        exact ⟨_, rfl, iteT (q _ s3)⟩
      refine iteTT (decide_eq_true h0) ?_
      refine ⟨.ref gA, rfl, gA, _, 1, .int gs[j].2, rfl, rfl, sqS s3 hG, atI_nat (j := 1) rfl, _, _, rfl, rfl, _, rfl, ?_⟩
      by_cases h2 : xi ≤ gs[j].2
      case neg =>
        refine iteTT (by simp [h2]) ?_
        rw [bad (by simp [withinD, h2])] at q
        exact q _ s3
      refine iteFF (by simp [h2]) ?_
      exact ⟨_, _, rfl, s3, good (by simp [withinD, h0, h2])⟩
    rintro σ H2 ⟨y3, y4, rfl, s2, hw⟩
    have hwa : (gs.zip ds).all (fun z => withinD 0 z.1.2 z.2) = true := by
      rw [List.all_eq_true]
      intro z hz
      obtain ⟨k, hk, e⟩ := List.mem_iff_getElem.mp hz
      have hk2 := hk
      rw [List.length_zip] at hk2
      have e2 := List.getElem?_eq_getElem hk
      rw [e, List.getElem?_zip_eq_some] at e2
      exact hw k (by omega) _ _ e2.1 e2.2
    rw [isv, hwa, Bool.true_and] at q
    have hint : ∀ d ∈ ds, ∃ x, d = PyData.int x := by
      intro d hd
      obtain ⟨j, hj, e⟩ := List.mem_iff_getElem.mp hd
      have hjg : j < gs.length := by omega
      have h1 := hw j (by omega) _ _ (List.getElem?_eq_getElem hjg) (List.getElem?_eq_getElem hj)
      rw [← e]
      cases hds : ds[j] with
      | int x => exact ⟨x, rfl⟩
      | _ => rw [hds] at h1; simp [withinD] at h1
    have hzv := ints_vals hint hzs
    generalize hxs : ds.map intAt = xs at q hzv
    have hxl : xs.length = gs.length := by rw [← hxs, List.length_map]; exact hdl
    rw [hzv] at hB
    rw [meets_by hxl] at q
    have hml := mvR_len cs.length xs
    refine ⟨.ref i, rfl, i, cs, gs, rfl, (TupK.of s2).dp _ _ (to_dInst _ _) hI, ok, fun H3 T E F s3 hT eE eF fE fF nEF => ⟨T, _, rfl, hT, rfl, _, _, rfl, _, _, rfl, rfl, ?_⟩⟩
    have s03 := s2.trans s3
    refine ⟨.ref i, rfl, i, cs, gs, rfl, (TupK.of s03).dp _ _ (to_dInst _ _) hI, ok, fun H4 Ro vs s4 eR hR fR => ?_⟩
    have nER : E ≠ Ro := ne_of_none eE fR
    have nFR : F ≠ Ro := ne_of_none eF fR
    have hrl := rowsTo_len cs gs gs.length
    have hvl := hR.1
    refine ⟨.ref Ro, rfl, Ro, rfl, ⟨_, SqL.of eR⟩, for_it (walk_list (K := K) (a := Ro) (xs := vs))
      (fun j σ H5 => ∃ (y3 y4 y8 y9 y10 : Option V), σ = [some (.ref i), some (.ref b), some (.ref ga), y3, y4, some (.ref E), some (.ref F), some (.ref Ro), y8, y9, y10, none, none, none, none] ∧ Same H2 H5 ∧ TupK H4 H5 ∧ H5 Ro = some (.lst vs) ∧
        H5 E = some (.lst ((subL (rExc cs gs) (mvR cs.length xs ((rowsTo cs gs gs.length).take j)).1).map V.int)) ∧ H5 F = some (.lst ((subL (rFre cs gs) (mvR cs.length xs ((rowsTo cs gs gs.length).take j)).2).map V.int)))
      ⟨_, _, none, none, none, rfl, s3.trans s4, TupK.refl _, eR, ?_, ?_⟩ (fun j σ H5 _ h => by obtain ⟨_, _, _, _, _, _, _, _, e5, _⟩ := h; exact SqL.of e5) ?_ ?_⟩
    · have h0 : subL (rExc cs gs) (mvR cs.length xs ((rowsTo cs gs gs.length).take 0)).1 = rExc cs gs := by
        have := sub_zero (rExc cs gs); rw [rExc_len] at this; exact this
      rw [h0]; exact s4 _ _ eE
    · have h0 : subL (rFre cs gs) (mvR cs.length xs ((rowsTo cs gs gs.length).take 0)).2 = rFre cs gs := by
        have := sub_zero (rFre cs gs); rw [rFre_len] at this; exact this
      rw [h0]; exact s4 _ _ eF
    · rintro j x σ H5 H6 hlt ⟨y3, y4, y8, y9, y10, rfl, s5, tk5, eR5, eE5, eF5⟩ ⟨rfl, hx⟩
      have hx : vs[j]? = some x := hx
      obtain ⟨⟨gi, p0, q0, c0⟩, hr, T2, rfl, hT2⟩ := hR.at hx
      obtain ⟨g, hg, hro, hgl⟩ := row_mem (List.mem_of_getElem? hr)
      dsimp only at hg hro hgl
      obtain ⟨hp0, hq0⟩ := route_in ok (List.mem_of_getElem? hg) hro
      have hsn : mvR cs.length xs ((rowsTo cs gs gs.length).take (j + 1)) = stepR xs (mvR cs.length xs ((rowsTo cs gs gs.length).take j)) (gi, p0, q0, c0) := by rw [take_snoc hr, mvR_snoc]
      obtain ⟨pn, rfl⟩ : ∃ pn : Nat, p0 = pn := ⟨p0.toNat, by simp only at hp0; omega⟩
      have l1 : (rExc cs gs).length = (mvR cs.length xs ((rowsTo cs gs gs.length).take j)).1.length := by rw [rExc_len, (hml _).1]
      have l2 : (rFre cs gs).length = (mvR cs.length xs ((rowsTo cs gs gs.length).take j)).2.length := by rw [rFre_len, (hml _).2]
      have hpl : pn < (subL (rExc cs gs) (mvR cs.length xs ((rowsTo cs gs gs.length).take j)).1).length := by rw [subL_len l1, rExc_len]; simp only at hp0; omega
      have hgx : gi < xs.length := by omega
      have hgd : xs.getD gi 0 = xs[gi] := by rw [List.getD_eq_getElem?_getD, List.getElem?_eq_getElem hgx]; rfl
      have hB6 := sqS (s2.trans s5) hB
      refine ⟨T2, _, rfl, tk5.sq hT2, rfl, _, _, rfl, _, _, rfl, _, _, rfl, _, _, rfl, rfl, ?_⟩
      refine ⟨.ref E, rfl, .int pn, rfl, E, _, _, _, rfl, rfl, SqL.of eE5, atI_nat (atS hpl), .ref b, rfl, .int (gi : Nat), rfl, b, _, _, _, rfl, rfl, hB6, atI_nat (atS hgx), _, _, rfl, rfl, .ref E, rfl, .int pn, rfl, E, _, _, pn, rfl, rfl, eE5, ixN_nat (by rw [List.length_map]; exact hpl), ?_⟩
      have hset : ((subL (rExc cs gs) (mvR cs.length xs ((rowsTo cs gs gs.length).take j)).1).map V.int).set pn (.int ((subL (rExc cs gs) (mvR cs.length xs ((rowsTo cs gs gs.length).take j)).1)[pn] - xs[gi])) = (subL (rExc cs gs) (mvR cs.length xs ((rowsTo cs gs gs.length).take (j + 1))).1).map V.int := by
        rw [hsn]
        unfold stepR
        rw [hgd]
        show _ = (subL (rExc cs gs) (addAt _ pn xs[gi])).map V.int
        rw [sub_add l1 hpl, List.map_set]
      dsimp only
      rw [hset]
      have s7 := samePut (o := .lst ((subL (rExc cs gs) (mvR cs.length xs ((rowsTo cs gs gs.length).take (j + 1))).1).map V.int)) s5 fE
      have tk7 := tk5.trans (TupK.put (o := .lst ((subL (rExc cs gs) (mvR cs.length xs ((rowsTo cs gs gs.length).take (j + 1))).1).map V.int)) eE5)
      have eE7 : (upd H6 E (.lst ((subL (rExc cs gs) (mvR cs.length xs ((rowsTo cs gs gs.length).take (j + 1))).1).map V.int))) E = _ := upd_same
      have eF7 : (upd H6 E (.lst ((subL (rExc cs gs) (mvR cs.length xs ((rowsTo cs gs gs.length).take (j + 1))).1).map V.int))) F = _ := (upd_ne nEF.symm).trans eF5
      have eR7 : (upd H6 E (.lst ((subL (rExc cs gs) (mvR cs.length xs ((rowsTo cs gs gs.length).take (j + 1))).1).map V.int))) Ro = _ := (upd_ne nER.symm).trans eR5
      generalize upd H6 E (.lst ((subL (rExc cs gs) (mvR cs.length xs ((rowsTo cs gs gs.length).take (j + 1))).1).map V.int)) = H7 at s7 tk7 eE7 eF7 eR7
      have hB7 := sqS (s2.trans s7) hB
      cases q0 with
      | none =>
        refine ⟨_, rfl, _, rfl, iteFF (by simp [oV]) ?_⟩
        refine ⟨_, _, _, _, _, rfl, s7, tk7, eR7, eE7, ?_⟩
        rw [eF7, hsn]; rfl
      | some y0 =>
        have hy0 := hq0 y0 rfl
        obtain ⟨yn, rfl⟩ : ∃ yn : Nat, y0 = yn := ⟨y0.toNat, by omega⟩
        have hyl : yn < (subL (rFre cs gs) (mvR cs.length xs ((rowsTo cs gs gs.length).take j)).2).length := by rw [subL_len l2, rFre_len]; omega
        refine ⟨_, rfl, _, rfl, iteTT (by simp [oV]) ?_⟩
        refine ⟨.ref F, rfl, .int yn, rfl, F, _, _, _, rfl, rfl, SqL.of eF7, atI_nat (atS hyl), .ref b, rfl, .int (gi : Nat), rfl, b, _, _, _, rfl, rfl, hB7, atI_nat (atS hgx), _, _, rfl, rfl, .ref F, rfl, .int yn, rfl, F, _, _, yn, rfl, rfl, eF7, ixN_nat (by rw [List.length_map]; exact hyl), ?_⟩
        refine ⟨_, _, _, _, _, rfl, samePut s7 fF, tk7.trans (TupK.put eF7), (upd_ne nFR.symm).trans eR7, (upd_ne nEF).trans eE7, ?_⟩
        rw [upd_same, hsn]
        unfold stepR
        rw [hgd]
        show _ = some (HO.lst ((subL (rFre cs gs) (addAt _ yn xs[gi])).map V.int))
        rw [sub_add l2 hyl, List.map_set]
    rintro σ H5 ⟨y3, y4, y8, y9, y10, rfl, s5, tk5, eR5, eE5, eF5⟩
    rw [hvl, List.take_length] at eE5 eF5
    have s05 := s2.trans s5
    have hB5 := sqS s05 hB
    have hR5 : Rl (RwV K H5) vs (rowsTo cs gs gs.length) := hR.mono fun v r h => h.tk tk5
    -- others
    refine ⟨.ref b, rfl, b, _, rfl, .inr hB5, _, rfl, by omega, by rw [List.length_map]; omega, fun D nD => lc_it (walk_range (lo := 0) (n := (((List.map V.int xs).length : Nat) : Int).toNat))
      (LcP H5 D (List.range xs.length) (fun (k : Nat) => if (!((rowsTo cs gs gs.length).map (fun r => (r.1 : Int))).contains (k : Int)) = true then some (.int (k : Nat)) else none)) (.start nD) (fun _ _ _ _ => trivial) ?_ ?_⟩
    · rintro j v H6 H7 hlt hL ⟨rfl, rfl⟩
      rw [List.length_map, Int.toNat_natCast] at hlt
      have e0 : (0 : Int) + (j : Nat) = ((j : Nat) : Int) := by omega
      have hz : (List.range xs.length)[j]? = some j := List.getElem?_range hlt
      have eR6 := hL.1 _ _ eR5
      dsimp only
      rw [e0]
      refine ⟨rfl, .int (j : Nat), rfl, .ref Ro, rfl, Ro, rfl, ⟨_, SqL.of eR6⟩, fun D2 nD2 => lc_it (walk_list (K := K) (a := Ro) (xs := vs))
        (LcP H7 D2 (rowsTo cs gs gs.length) (fun r => some (.int (r.1 : Nat)))) (.start nD2) (fun j H _ h => SqL.of (h.1 _ _ eR6)) ?_ ?_⟩
      · rintro m v H8 H9 hm hM ⟨rfl, hv⟩
        have hv : vs[m]? = some v := hv
        obtain ⟨r, hr, T3, rfl, hT3⟩ := hR5.at hv
        exact ⟨rfl, .ref T3, rfl, T3, _, 0, _, rfl, rfl, sqS (hL.1.trans hM.1) hT3, atI_nat (j := 0) rfl, hM.yes nD2 (Same.refl _) hr rfl (by omega)⟩
      rintro H8 hM
      have e8 := hM.done (Nat.le_of_eq hvl.symm)
      have hmm : (rowsTo cs gs gs.length).filterMap (fun r => some (V.int (r.1 : Nat))) = ((rowsTo cs gs gs.length).map (fun r => (r.1 : Int))).map V.int := by rw [fm_map, List.map_map]; rfl
      rw [hmm] at e8
      refine ⟨D2, _, rfl, .inl (SqL.of e8), rfl, flat_ints _, _, rfl, ?_⟩
      rw [if_pos rfl, inV_ints]
      refine ite2 (fun h2 => ?_) (fun h2 => ?_)
      · exact ⟨_, rfl, hL.yes nD hM.1 hz (if_pos h2) (by omega)⟩
      · exact hL.no hM.1 hz (if_neg h2)
    rintro H6 hL
    have e6 := hL.done (by rw [List.length_range, List.length_map]; omega)
    have ho : (List.range xs.length).filterMap (fun (k : Nat) => if (!((rowsTo cs gs gs.length).map (fun r => (r.1 : Int))).contains (k : Int)) = true then some (V.int (k : Nat)) else none) = ((othOf cs gs xs.length).map (fun (k : Nat) => (k : Int))).map V.int := by rw [fm_filter, List.map_map]; rfl
    rw [ho] at e6
    have s06 := s05.trans hL.1
    have hB6 := sqS s06 hB
    have eE6 := hL.1 _ _ eE5
    have eF6 := hL.1 _ _ eF5
    have hol : ((othOf cs gs xs.length).map (fun (k : Nat) => (k : Int))).length ≤ 10 := by
      rw [List.length_map]
      unfold othOf
      exact Nat.le_trans (List.length_filter_le _ _) (by rw [List.length_range]; omega)
    refine ⟨.ref D, rfl, D, rfl, ⟨_, SqL.of e6⟩, fun D3 nD3 => lc_it (walk_list (K := K) (a := D) (xs := ((othOf cs gs xs.length).map (fun (k : Nat) => (k : Int))).map V.int))
      (LcP H6 D3 ((othOf cs gs xs.length).map (fun (k : Nat) => (k : Int))) (fun k => if (!decide (xs.getD k.toNat 0 = 0)) = true then some (.int k) else none)) (.start nD3) (fun j H _ h => SqL.of (h.1 _ _ e6)) ?_ ?_⟩
    · rintro m v H8 H9 hm hM ⟨rfl, hv⟩
      have hv : (((othOf cs gs xs.length).map (fun (k : Nat) => (k : Int))).map V.int)[m]? = some v := hv
      rw [List.getElem?_map] at hv
      obtain ⟨k, hk, rfl⟩ := Option.map_eq_some_iff.mp hv
      obtain ⟨kn, rfl, hkn⟩ := oth_mem (List.mem_of_getElem? hk)
      rw [List.length_map] at hm
      refine ⟨rfl, .ref b, rfl, .int (kn : Nat), rfl, b, _, _, _, rfl, rfl, sqS (hM.1) hB6, atI_nat (atS hkn), rfl, _, rfl, ?_⟩
      have hgd : xs.getD kn 0 = xs[kn] := by rw [List.getD_eq_getElem?_getD, List.getElem?_eq_getElem hkn]; rfl
      refine ite2 (fun h2 => ?_) (fun h2 => ?_)
      · exact ⟨_, rfl, hM.yes nD3 (Same.refl _) hk (by rw [Int.toNat_natCast, hgd]; simp at h2 ⊢; exact h2) (by omega)⟩
      · exact hM.no (Same.refl _) hk (by rw [Int.toNat_natCast, hgd]; simp at h2 ⊢; exact h2)
    rintro H8 hM
    have e8 := hM.done (by simp)
    rw [fm_filter] at e8
    refine ⟨Nat.zero_le _, fun Em nEm => ⟨.list ((((othOf cs gs xs.length).map (fun (k : Nat) => (k : Int))).filter (fun k => !decide (xs.getD k.toNat 0 = 0))).map PyData.int), .list [], .lst (SqL.of (upNew nEm e8)) (dp_ints _), .lst (SqL.of upd_same) .nil, shaped_ints _, by decide, _, rfl, ?_⟩⟩
    rw [eqv_empty, List.isEmpty_map]
    have s9 := hM.1.trans (sameNew (o := .lst []) nEm)
    generalize upd H8 Em (.lst []) = H9 at s9
    have eE9 := s9 _ _ eE6
    have eF9 := s9 _ _ eF6
    have s09 := s06.trans s9
    refine ite2 (fun h1 => ?_) (fun h1 => ?_)
    · have h1 : (((othOf cs gs xs.length).map (fun (k : Nat) => (k : Int))).filter (fun k => !decide (xs.getD k.toNat 0 = 0))).isEmpty = false := by simpa using h1
      rw [h1] at q
      exact iteT (q _ s09)
    have h1 : (((othOf cs gs xs.length).map (fun (k : Nat) => (k : Int))).filter (fun k => !decide (xs.getD k.toNat 0 = 0))).isEmpty = true := by simpa using h1
    rw [h1, Bool.true_and] at q
    generalize hzE : subL (rExc cs gs) (mvR cs.length xs (rowsTo cs gs gs.length)).1 = zE at q eE9
    generalize hzF : subL (rFre cs gs) (mvR cs.length xs (rowsTo cs gs gs.length)).2 = zF at q eF9
    have lE : zE.length ≤ 6 := by rw [← hzE, subL_len (by rw [rExc_len, (hml _).1]), rExc_len]; omega
    have lF : zF.length ≤ 6 := by rw [← hzF, subL_len (by rw [rFre_len, (hml _).2]), rFre_len]; omega
    refine ⟨.ref E, rfl, E, rfl, ⟨_, SqL.of eE9⟩, fun D4 nD4 => lc_it (walk_list (K := K) (a := E) (xs := zE.map V.int))
      (LcP H9 D4 zE (fun x => if (!decide (x = 0)) = true then some (.int x) else none)) (.start nD4) (fun j H _ h => SqL.of (h.1 _ _ eE9)) ?_ ?_⟩
    · rintro m v H10 H11 hm hN ⟨rfl, hv⟩
      have hv : (zE.map V.int)[m]? = some v := hv
      rw [List.getElem?_map] at hv
      obtain ⟨k, hk, rfl⟩ := Option.map_eq_some_iff.mp hv
      rw [List.length_map] at hm
      refine ⟨rfl, .int k, rfl, rfl, _, rfl, ite2 (fun h2 => ?_) (fun h2 => ?_)⟩
      · exact ⟨_, rfl, hN.yes nD4 (Same.refl _) hk (by simp at h2 ⊢; exact h2) (by omega)⟩
      · exact hN.no (Same.refl _) hk (by simp at h2 ⊢; exact h2)
    rintro H10 hN
    have e10 := hN.done (by rw [List.length_map]; exact Nat.le_refl _)
    rw [fm_filter] at e10
    refine ⟨Nat.zero_le _, fun Em2 nEm2 => ⟨.list ((zE.filter (fun x => !decide (x = 0))).map PyData.int), .list [], .lst (SqL.of (upNew nEm2 e10)) (dp_ints _), .lst (SqL.of upd_same) .nil, shaped_ints _, by decide, _, rfl, ?_⟩⟩
    rw [eqv_empty, List.isEmpty_map]
    have s11 := hN.1.trans (sameNew (o := .lst []) nEm2)
    generalize upd H10 Em2 (.lst []) = H11 at s11
    have eF11 := s11 _ _ eF9
    have s011 := s09.trans s11
    cases hf2 : (zE.filter (fun x => !decide (x = 0))).isEmpty with
    | false =>
      rw [hf2] at q
      exact iteT (q _ s011)
    | true =>
    rw [hf2, Bool.true_and] at q
    refine iteF ?_
    refine ⟨.ref F, rfl, F, rfl, ⟨_, SqL.of eF11⟩, fun D5 nD5 => lc_it (walk_list (K := K) (a := F) (xs := zF.map V.int))
      (LcP H11 D5 zF (fun x => if (decide (x < 0)) = true then some (.int x) else none)) (.start nD5) (fun j H _ h => SqL.of (h.1 _ _ eF11)) ?_ ?_⟩
    · rintro m v H12 H13 hm hN ⟨rfl, hv⟩
      have hv : (zF.map V.int)[m]? = some v := hv
      rw [List.getElem?_map] at hv
      obtain ⟨k, hk, rfl⟩ := Option.map_eq_some_iff.mp hv
      rw [List.length_map] at hm
      refine ⟨rfl, .int k, rfl, _, _, rfl, rfl, _, rfl, ite2 (fun h2 => ?_) (fun h2 => ?_)⟩
      · exact ⟨_, rfl, hN.yes nD5 (Same.refl _) hk (if_pos h2) (by omega)⟩
      · exact hN.no (Same.refl _) hk (if_neg h2)
    rintro H12 hN2
    have e12 := hN2.done (by rw [List.length_map]; exact Nat.le_refl _)
    rw [fm_filter] at e12
    refine ⟨Nat.zero_le _, fun Em3 nEm3 => ⟨.list ((zF.filter (fun x => decide (x < 0))).map PyData.int), .list [], .lst (SqL.of (upNew nEm3 e12)) (dp_ints _), .lst (SqL.of upd_same) .nil, shaped_ints _, by decide, ?_⟩⟩
    rw [eqv_empty, List.isEmpty_map]
    exact q _ (s011.trans (hN2.1.trans (sameNew nEm3)))
end
end Pv

namespace Pv
open PySem PySem.Spec PyProof.Rows L2
abbrev sLa : Stmt := topS 28
theorem scLa : FnScope ["_law_instance_here", "_law_found", "_law_open_ones", "_law_group", "_law_posts", "_law_count", "_law_longer", "_law_numbers", "_law_row", "_law_number"] ["_law_instance_here"] (defScope sLa) := ⟨rfl, rfl, rfl, by decide +kernel, rfl, by decide +kernel, by decide +kernel⟩
abbrev sOd : Stmt := topS 29
theorem scOd : FnScope ["_law_deck", "_law_some"] ["_law_deck"] (defScope sOd) := ⟨rfl, rfl, rfl, by decide +kernel, rfl, by decide +kernel, by decide +kernel⟩
theorem Rl.app {β : Type} {R : V → β → Prop} {vs ws : List V} {rs ss : List β} (h : Rl R vs rs) (h' : Rl R ws ss) : Rl R (vs ++ ws) (rs ++ ss) := by
  refine ⟨by simp [h.1, h'.1], fun j v r h1 h2 => ?_⟩
  by_cases hj : j < vs.length
  · rw [List.getElem?_append_left hj] at h1
    rw [List.getElem?_append_left (by rw [← h.1]; exact hj)] at h2
    exact h.2 j v r h1 h2
  · rw [List.getElem?_append_right (by omega)] at h1
    rw [List.getElem?_append_right (by rw [← h.1]; omega), ← h.1] at h2
    exact h'.2 _ v r h1 h2
def TuV (K : PySem.W.Frag) (H : Hp) (v : V) (xs : List Int) : Prop := ∃ T, v = .ref T ∧ SqT K H T (xs.map V.int)
theorem TuV.tk {K : PySem.W.Frag} {H H' : Hp} {v : V} {xs : List Int} (h : TuV K H v xs) (s : TupK H H') : TuV K H' v xs := by
  obtain ⟨T, e, h⟩ := h; exact ⟨T, e, s.sq h⟩
def oddL : List PyData := [.none, .bool true, .bool false, .int (-1), .int 0, .int 1, .int 2, .int 10, .int (10 ^ (29 : Int).toNat), .str "", .str "0", .tuple [], .list [], .dict [], .tuple [.int 0], .list [.int 0], .tuple [.bool true], .tuple [.tuple [.int 0]], .dict [(.str "a", .int 1)]]
theorem odd_fit : ∀ d ∈ oddL, Fit (10 ^ 29) 2 500 d := by
  intro d hd
  simp only [oddL, List.mem_cons, List.not_mem_nil, or_false] at hd
  rcases hd with rfl | rfl | rfl | rfl | rfl | rfl | rfl | rfl | rfl | rfl | rfl | rfl | rfl | rfl | rfl | rfl | rfl | rfl | rfl
  · exact ⟨by simp [fit, fitAll], by simp [PyData.depth, PyData.depthAll], by simp [wt, wtAll]⟩
  · exact ⟨by simp [fit, fitAll], by simp [PyData.depth, PyData.depthAll], by simp [wt, wtAll]⟩
  · exact ⟨by simp [fit, fitAll], by simp [PyData.depth, PyData.depthAll], by simp [wt, wtAll]⟩
  · exact ⟨by simp [fit, fitAll], by simp [PyData.depth, PyData.depthAll], by simp [wt, wtAll]⟩
  · exact ⟨by simp [fit, fitAll], by simp [PyData.depth, PyData.depthAll], by simp [wt, wtAll]⟩
  · exact ⟨by simp [fit, fitAll], by simp [PyData.depth, PyData.depthAll], by simp [wt, wtAll]⟩
  · exact ⟨by simp [fit, fitAll], by simp [PyData.depth, PyData.depthAll], by simp [wt, wtAll]⟩
  · exact ⟨by simp [fit, fitAll], by simp [PyData.depth, PyData.depthAll], by simp [wt, wtAll]⟩
  · exact ⟨by simp only [fit]; decide, by simp [PyData.depth], by simp [wt]⟩
  · exact ⟨by simp only [fit]; decide +kernel, by simp [PyData.depth], by simp [wt]⟩
  · exact ⟨by simp only [fit]; decide +kernel, by simp [PyData.depth], by simp [wt]⟩
  · exact ⟨by simp [fit, fitAll], by simp [PyData.depth, PyData.depthAll], by simp [wt, wtAll]⟩
  · exact ⟨by simp [fit, fitAll], by simp [PyData.depth, PyData.depthAll], by simp [wt, wtAll]⟩
  · exact ⟨by simp only [fit]; exact ⟨by decide +kernel, by simp [PyData.showable, PyData.showableKv]⟩, by simp [PyData.depth, PyData.depthKv], by simp [wt]⟩
  · exact ⟨by simp [fit, fitAll], by simp [PyData.depth, PyData.depthAll], by simp [wt, wtAll]⟩
  · exact ⟨by simp [fit, fitAll], by simp [PyData.depth, PyData.depthAll], by simp [wt, wtAll]⟩
  · exact ⟨by simp [fit, fitAll], by simp [PyData.depth, PyData.depthAll], by simp [wt, wtAll]⟩
  · exact ⟨by simp [fit, fitAll], by simp [PyData.depth, PyData.depthAll], by simp [wt, wtAll]⟩
  · exact ⟨by simp only [fit]; exact ⟨by decide +kernel, by simp [PyData.showable, PyData.showableKv]; decide⟩, by simp [PyData.depth, PyData.depthKv], by simp [wt]⟩
section
variable {P : Program} {w : World} {K : PySem.W.Frag} {mg : Str → Option Value} {base : Heap}
def spLa (K : PySem.W.Frag) : Sp := fun vs H Q _ => ∃ (i : Addr) (cs : List Int) (gs : List Gp), vs = [.ref i] ∧ Dp K H (.ref i) (dInst cs gs) ∧ InsOk cs gs ∧ gs.length ≤ 4 ∧ (∀ g ∈ gs, g.2 ≤ 3) ∧
  ∀ H' p vs vss, Same H H' → H' p = some (.lst vs) → Rl (TuV K H') vs vss → (∀ ys ∈ vss, ys.length = gs.length ∧ ∀ y ∈ ys, 0 ≤ y ∧ y ≤ 3) → vs.length ≤ 256 → Q (.ref p) H'
set_option maxHeartbeats 4000000 in
theorem ok_La {f fLw fLv : Addr} {fd fdLw fdLv : FuncData} (F : Fun K "_law_all_vectors" "_law_all_vectors" sLa f fd)
    (FLw : Fun K "_law_rows" "_law_rows" sLw fLw fdLw) (bLw : Binds K fdLw ["_law_instance_here"] []) (gLw : mg "_law_rows" = some (.ref fLw)) (GLw : FnOk P w K mg base CX0 3 fLw fdLw ["_law_instance_here"] (spLw K))
    (FLv : Fun K "_law_is_vector" "_law_is_vector" sLv fLv fdLv) (bLv : Binds K fdLv ["_law_instance_here", "_law_value"] []) (gLv : mg "_law_is_vector" = some (.ref fLv)) (GLv : FnOk P w K mg base CX0 4 fLv fdLv ["_law_instance_here", "_law_value"] (spIv K))
    (m_enumerate : mg "enumerate" = none) (m_int : mg "int" = none) (m_range : mg "range" = none) :
    FnOk P w K mg base CX0 5 f fd ["_law_instance_here"] (spLa K) := by
  refine F.ok scLa (fun vs H Q E h => ?_) (fun cdv A outer s H vs Q E hr h => ?_)
  · obtain ⟨i, cs, gs, rfl, _⟩ := h; rfl
  · obtain ⟨i, cs, gs, rfl, hI, ok, h4, h3, q⟩ := h
    refine ⟨_, pss_cons (ps_set (i := 1) scLa.nd rfl (.inl rfl) (pe_lst (pa_cons (pe_tup (pa_nil)) pa_nil)))
      (pss_cons (ps_setLc (i := 2) (own := [("_law_row", 8)]) (g := gName 8) (tt := tYes) (te := tOp (rIxT K) (tVar 8) (tC (.int 0))) rfl scLa.nd rfl rfl (sw_true rfl rfl rfl (by decide +kernel)) (pi_list (pe_call GLw (hr.mono (by omega)) (by rfl) gLw FLw.kp bLw .nil pass0 (pa_cons (pv 0) pa_nil))) (blkOk_by (N := ["_law_instance_here", "_law_found", "_law_open_ones", "_law_group", "_law_posts", "_law_count", "_law_longer", "_law_numbers", "_law_row", "_law_number"]) (sc := defScope sLa) (by decide +kernel)) (fun _ _ _ _ _ => pg_name (i := 8) scLa.nd rfl (.inl rfl)) (fun _ _ _ _ _ => pts_nil) (fun _ _ _ _ _ => pe_ix ix_tup (pv 8) (pe_int) (fun _ _ => rfl)))
      (pss_cons (ps_for PassesOwn.never rfl (pi_enumT (by rfl) m_enumerate (pa_cons (pe_ix ix_tup (pv 0) (pe_int) (fun _ _ => rfl)) pa_nil)) (pg_tup rfl (pgs_cons (pg_name (i := 3) scLa.nd rfl (.inl rfl)) (pgs_cons (pg_tup rfl (pgs_cons (pg_name (i := 4) scLa.nd rfl (.inl rfl)) (pgs_cons (pg_name (i := 5) scLa.nd rfl (.inl rfl)) pgs_nil))) pgs_nil)))
        (pss_cons (ps_set (i := 6) scLa.nd rfl (.inl rfl) (pe_lst (pa_nil)))
        (pss_cons (ps_for PassesOwn.never rfl (pi_list (pv 1)) (pg_name (i := 7) scLa.nd rfl (.inr rfl))
          (pss_one (ps_expr (pe_bm PySem.F.plainAttrs_list PySem.F.slot_list_extend PySem.F.type_list_extend mt_extend (pv 6) (pa_cons (pe_lc (own := [("_law_number", 9)]) (g := gName 9) (tt := tYes) (te := tOp (rCatA K) (tVar 7) (tTup (tCons (tVar 9) tNil))) rfl scLa.nd (pi_range1 (by rfl) m_range (pa_cons (pe_op op_add (pe_int) (pe_op op_mul (pv 5) (pe_callTy call_int1 (by rfl) m_int (by decide +kernel) (pa_cons (pe_cmpR op_in_seq (pv 3) (pv 2) (by rfl)) pa_nil)))) pa_nil)) (blkOk_by (N := ["_law_instance_here", "_law_found", "_law_open_ones", "_law_group", "_law_posts", "_law_count", "_law_longer", "_law_numbers", "_law_row", "_law_number"]) (sc := defScope sLa) (by decide +kernel)) (fun _ _ _ _ _ => pg_name (i := 9) scLa.nd rfl (.inl rfl)) (fun _ _ _ _ _ => pts_nil) (fun _ _ _ _ _ => pe_op op_catA (pv 7) (pe_tup (pa_cons (pv 9) pa_nil)))) pa_nil)))))
        (pss_one (ps_set (i := 1) scLa.nd rfl (.inl rfl) (pv 6))))))
      (pss_one (ps_ret (pe_lc (own := [("_law_numbers", 7)]) (g := gName 7) (tt := tB (tCall (spIv K) [] E0 (tCons (tVar 0) (tCons (tVar 7) tNil)))) (te := tVar 7) rfl scLa.nd (pi_list (pv 1)) (blkOk_by (N := ["_law_instance_here", "_law_found", "_law_open_ones", "_law_group", "_law_posts", "_law_count", "_law_longer", "_law_numbers", "_law_row", "_law_number"]) (sc := defScope sLa) (by decide +kernel)) (fun _ _ _ _ _ => pg_name (i := 7) scLa.nd rfl (.inl rfl)) (fun _ _ _ _ _ => pts_one (pt_val (pe_call GLv (hr.mono (by omega)) (by rfl) gLv FLv.kp bLv .nil pass0 (pa_cons (pv 0) (pa_cons (pv 7) pa_nil))))) (fun _ _ _ _ _ => pv 7)))))), ?_⟩
    obtain ⟨_, ca, ga, xs, e, hi, hc, hgt, hgs⟩ := inst_open hI
    cases e
    have lx := DpAll.len hgs
    rw [List.length_map] at lx
    have h10 := ok.g10
    refine ⟨Nat.zero_le _, fun T0 nT0 => ⟨(show (1 : Nat) ≤ sizeLine by decide), fun Fo nFo => ?_⟩⟩
    have sF := (sameNew (o := .tup []) nT0).trans (sameNew (o := .lst [.ref T0]) nFo)
    have eFo : (upd (upd H T0 (.tup [])) Fo (.lst [.ref T0])) Fo = some (.lst [.ref T0]) := upd_same
    have hT0 : SqT K (upd (upd H T0 (.tup [])) Fo (.lst [.ref T0])) T0 [] := SqT.of (upNew nFo upd_same)
    generalize upd (upd H T0 (.tup [])) Fo (.lst [.ref T0]) = H0 at sF eFo hT0
    refine ⟨.ref i, rfl, i, cs, gs, rfl, (TupK.of sF).dp _ _ (to_dInst _ _) hI, ok, fun H1 Ro rv s1 eR hR fR => ⟨Ro, rfl, ⟨_, SqL.of eR⟩, fun D nD => lc_it (walk_list (K := K) (a := Ro) (xs := rv))
      (LcP H1 D (rowsTo cs gs gs.length) (fun r => some (.int (r.1 : Nat)))) (.start nD) (fun j H _ h => SqL.of (h.1 _ _ eR)) ?_ ?_⟩⟩
    · rintro m v H8 H9 hm hM ⟨rfl, hv⟩
      have hv : rv[m]? = some v := hv
      obtain ⟨r, hr, T3, rfl, hT3⟩ := hR.at hv
      have hrl := rowsTo_len cs gs gs.length
      have := hR.1
      exact ⟨rfl, .ref T3, rfl, T3, _, 0, _, rfl, rfl, sqS hM.1 hT3, atI_nat (j := 0) rfl, hM.yes nD (Same.refl _) hr rfl (by omega)⟩
    rintro H2 hM
    have eD := hM.done (Nat.le_of_eq hR.1.symm)
    have hmm : (rowsTo cs gs gs.length).filterMap (fun r => some (V.int (r.1 : Nat))) = ((rowsTo cs gs gs.length).map (fun r => (r.1 : Int))).map V.int := by rw [fm_map, List.map_map]; rfl
    rw [hmm] at eD
    generalize (rowsTo cs gs gs.length).map (fun r => (r.1 : Int)) = op at eD
    have s12 := s1.trans hM.1
    have s2 := sF.trans s12
    refine ⟨.ref i, rfl, i, _, 1, .ref ga, rfl, rfl, sqS s2 hi, atI_nat (j := 1) rfl, ga, _, rfl, sqS s2 hgt, for_it (walk_enumT (K := K) (a := ga) (xs := xs))
      (fun j σ H3 => ∃ (Fj : Addr) (y3 y4 y5 y6 y7 : Option V) (vs : List V) (vss : List (List Int)), σ = [some (.ref i), some (.ref Fj), some (.ref D), y3, y4, y5, y6, y7, none, none] ∧ Same H2 H3 ∧ H3 Fj = some (.lst vs) ∧ Rl (TuV K H3) vs vss ∧ (∀ ys ∈ vss, ys.length = j ∧ ∀ y ∈ ys, 0 ≤ y ∧ y ≤ 3) ∧ vs.length ≤ 4 ^ j)
      ⟨Fo, none, none, none, none, none, [.ref T0], [[]], rfl, Same.refl _, s12 _ _ eFo, ⟨rfl, ?_⟩, ?_, by simp⟩ (fun j σ H3 _ h => by obtain ⟨_, _, _, _, _, _, _, _, _, s3, _⟩ := h; exact sqS (s2.trans s3) hgt) ?_ ?_⟩
    · intro j v r h1 h2
      cases j with
      | zero => simp at h1 h2; subst h1; subst h2; exact ⟨T0, rfl, sqS s12 hT0⟩
      | succ j => simp at h1
    · intro ys hys
      simp at hys
      subst hys
      simp
    · rintro j v σ H3 H4 hlt ⟨Fj, y3, y4, y5, y6, y7, vs, vss, rfl, s3, e3, hv3, b3, l3⟩ ⟨T, x, y, rfl, nT, rfl, ex, ey⟩
      have hj : j < gs.length := by omega
      have hg : gs[j]? = some gs[j] := List.getElem?_eq_getElem hj
      obtain ⟨gA, pA, hx, hG, hP⟩ := grp_at hgs hg
      cases ex
      have ey : xs[j]? = some y := ey
      rw [hx] at ey
      cases ey
      have hgc := h3 gs[j] (List.getElem_mem hj)
      have hgc1 := (ok.gp gs[j] (List.getElem_mem hj)).2.2.1
      have l3' : vs.length ≤ 256 := Nat.le_trans l3 (Nat.le_trans (Nat.pow_le_pow_right (by decide) (show j ≤ 4 by omega)) (by decide))
      have sT := sameNew (o := .tup [.int (j : Nat), .ref gA]) nT
      refine ⟨T, _, rfl, SqT.of upd_same, rfl, _, _, rfl, _, _, rfl, gA, _, rfl, sqS (s2.trans (s3.trans sT)) hG, rfl, _, _, rfl, _, _, rfl, rfl, rfl, ?_⟩
      generalize upd H3 T (.tup [.int (j : Nat), .ref gA]) = H4 at sT
      refine ⟨Nat.zero_le _, fun Lo nLo => ?_⟩
      have e4 := sT _ _ e3
      have hv4 : Rl (TuV K H4) vs vss := hv3.mono fun v r h => h.tk (.of sT)
      have eD4 := (s3.trans sT) _ _ eD
      refine ⟨.ref Fj, rfl, Fj, rfl, ⟨_, SqL.of (upNew nLo e4)⟩, for_it (walk_list (K := K) (a := Fj) (xs := vs))
        (fun k σ H5 => ∃ (y7 : Option V) (ws : List V) (wss : List (List Int)), σ = [some (.ref i), some (.ref Fj), some (.ref D), some (.int (j : Nat)), some (.ref pA), some (.int gs[j].2), some (.ref Lo), y7, none, none] ∧ Same H4 H5 ∧ H5 Lo = some (.lst ws) ∧ Rl (TuV K H5) ws wss ∧ (∀ ys ∈ wss, ys.length = j + 1 ∧ ∀ y ∈ ys, 0 ≤ y ∧ y ≤ 3) ∧ ws.length ≤ 4 * k)
        ⟨_, [], [], rfl, sameNew nLo, upd_same, Rl.nil, fun _ h => (by cases h), by simp⟩ (fun k σ H5 _ h => by obtain ⟨_, _, _, _, s5, _⟩ := h; exact SqL.of (s5 _ _ e4)) ?_ ?_⟩
      · rintro k v σ H5 H6 hk ⟨y7, ws, wss, rfl, s5, e5, hw5, b5, l5⟩ ⟨rfl, hv⟩
        have hv : vs[k]? = some v := hv
        obtain ⟨ns, hns, Tn, rfl, hTn⟩ := hv4.at hv
        have hnb := b3 ns (List.mem_of_getElem? hns)
        have hTn5 := sqS s5 hTn
        refine ⟨.ref Lo, rfl, .inl ⟨rfl, _, SqL.of e5⟩, .int gs[j].2, rfl, .int (j : Nat), rfl, .ref D, rfl, D, _, rfl, .inl (SqL.of (s5 _ _ eD4)), rfl, flat_ints _, .inr ⟨_, rfl, _, _, rfl, rfl, .inl ⟨by omega, by omega⟩, _, _, rfl, rfl, ?_⟩⟩
        generalize hm : (1 : Int) + gs[j].2 * (if (if false = true then !inV (V.int (j : Nat)) (op.map V.int) else inV (V.int (j : Nat)) (op.map V.int)) = true then 1 else 0) = m
        have hm1 : 0 ≤ m ∧ m ≤ 4 := by
          rw [← hm]
          generalize (if false = true then !inV (V.int (j : Nat)) (op.map V.int) else inV (V.int (j : Nat)) (op.map V.int)) = c
          cases c
          · simp
          · simp; omega
        have hml : m.toNat ≤ 4 := by omega
        refine ⟨m, by subst hm; rfl, by omega, by omega, fun D2 nD2 => lc_it (walk_range (lo := 0) (n := m.toNat)) (LcR (TuV K) H6 D2 (List.range m.toNat) (fun n => some (ns ++ [(n : Int)]))) (.start nD2) (fun _ _ _ _ => trivial) ?_ ?_⟩
        · rintro n v H7 H8 hn hL ⟨rfl, rfl⟩
          have e0 : (0 : Int) + (n : Nat) = ((n : Nat) : Int) := by omega
          dsimp only
          rw [e0]
          refine ⟨rfl, .ref Tn, rfl, .int (n : Nat), rfl, (show (1 : Nat) ≤ sizeLine by decide), fun N nN => cat_eq (sqS (hL.1.trans (sameNew nN)) hTn5) (SqT.of upd_same) ?_ (fun H9 p s9 hp => ?_)⟩
          · rw [List.length_map]; exact small6 (by simp; omega)
          · exact hL.yes (fun _ _ _ _ tk h => h.tk tk) nD2 ((sameNew nN).trans s9) (List.getElem?_range hn) rfl ⟨p, rfl, by rw [List.map_append]; exact hp⟩ (by omega)
        rintro H7 hL
        obtain ⟨zs, e7, hz7⟩ := hL.done (by simp)
        have eL7 := hL.1 _ _ e5
        have nLD : Lo ≠ D2 := ne_of_none e5 nD2
        have hzl : zs.length ≤ 4 := by
          rw [hz7.1]
          exact Nat.le_trans (List.length_filterMap_le _ _) (by simp; omega)
        have tkp : TupK H7 (upd H7 Lo (.lst (ws ++ zs))) := TupK.put eL7
        refine ⟨Lo, D2, ws, zs, rfl, rfl, eL7, e7, small6 (by omega), _, ws ++ zs, _, rfl, samePut (s5.trans hL.1) nLo, upd_same, ((hw5.mono fun v r h => h.tk ((TupK.of hL.1).trans tkp)).app (hz7.mono fun v r h => h.tk tkp)), ?_, by rw [List.length_append]; omega⟩
        intro ys hys
        rcases List.mem_append.mp hys with h | h
        · exact b5 ys h
        · obtain ⟨n, hn, e⟩ := List.mem_filterMap.mp h
          cases e
          have hn := List.mem_range.mp hn
          refine ⟨by simp [hnb.1], fun y hy => ?_⟩
          rcases List.mem_append.mp hy with h | h
          · exact hnb.2 y h
          · simp at h; omega
      · rintro σ H5 ⟨y7, ws, wss, rfl, s5, e5, hw5, b5, l5⟩
        refine ⟨.ref Lo, rfl, Lo, _, _, _, _, _, ws, wss, rfl, s3.trans (sT.trans s5), e5, hw5, b5, ?_⟩
        rw [Nat.pow_succ]; omega
    · rintro σ H3 ⟨Fj, y3, y4, y5, y6, y7, vs, vss, rfl, s3, e3, hv3, b3, l3⟩
      rw [lx] at b3 l3
      have l3' : vs.length ≤ 256 := Nat.le_trans l3 (Nat.le_trans (Nat.pow_le_pow_right (by decide) h4) (by decide))
      have s03 := s2.trans s3
      refine ⟨.ref Fj, rfl, Fj, rfl, ⟨_, SqL.of e3⟩, fun D2 nD2 => lc_it (walk_list (K := K) (a := Fj) (xs := vs))
        (LcR (TuV K) H3 D2 vss (fun ns => if isVecD cs gs (dI ns) = true then some ns else none)) (.start nD2) (fun j H _ h => SqL.of (h.1 _ _ e3)) ?_ ?_⟩
      · rintro k v H5 H6 hk hL ⟨rfl, hv⟩
        have hv : vs[k]? = some v := hv
        obtain ⟨ns, hns, Tn, rfl, hTn⟩ := hv3.at hv
        refine ⟨rfl, .ref i, rfl, .ref Tn, rfl, i, i, i, .ref Tn, cs, gs, dI ns, rfl, (TupK.of (s03.trans hL.1)).dp _ _ (to_dInst _ _) hI, ok, .of_dp (to_ints ns) (dI_sq (sqS hL.1 hTn)), fun H7 s7 => ⟨_, rfl, ite2 (fun h1 => ?_) (fun h1 => ?_)⟩⟩
        · exact ⟨_, rfl, hL.yes (fun _ _ _ _ tk h => h.tk tk) nD2 s7 hns (if_pos h1) ⟨Tn, rfl, sqS (hL.1.trans s7) hTn⟩ (by omega)⟩
        · exact hL.no (fun _ _ _ _ tk h => h.tk tk) s7 hns (if_neg h1)
      rintro H5 hL
      obtain ⟨zs, e5, hz5⟩ := hL.done (Nat.le_of_eq hv3.1.symm)
      refine q _ D2 zs _ (s03.trans hL.1) e5 hz5 (fun ys hys => ?_) ?_
      · obtain ⟨ns, hn, e⟩ := List.mem_filterMap.mp hys
        split at e
        · cases e; exact b3 _ hn
        · cases e
      · rw [hz5.1]
        refine Nat.le_trans (List.length_filterMap_le _ _) ?_
        rw [← hv3.1]; exact l3'
def spOd (K : PySem.W.Frag) : Sp := fun vs H Q _ => ∃ (st g : Addr) (t : Nat), vs = [.ref st] ∧ DV H st g t ∧ t < 1000000 ∧ ∀ (H' : Hp) (v : V) (d : PyData), DV H' st g (t + 1) → Ext st g H H' → Dw K (dom H) H' v d → Fit (10 ^ 29) 2 500 d → Q v H'
set_option maxHeartbeats 4000000 in
theorem ok_Od {f fDr : Addr} {fd fdDr : FuncData} (F : Fun K "_law_odd" "_law_odd" sOd f fd)
    (FDr : Fun K "_law_next" "_law_next" sDr fDr fdDr) (bDr : Binds K fdDr ["_law_deck", "_law_many"] []) (gDr : mg "_law_next" = some (.ref fDr)) (GDr : FnOk P w K mg base CX0 1 fDr fdDr ["_law_deck", "_law_many"] spDraw)
     :
    FnOk P w K mg base CX0 2 f fd ["_law_deck"] (spOd K) := by
  refine F.ok scOd (fun vs H Q E h => ?_) (fun cdv A outer s H vs Q E hr h => ?_)
  · obtain ⟨st, g, t, rfl, _⟩ := h; rfl
  · obtain ⟨st, g, t, rfl, d0, ht, q⟩ := h
    refine ⟨_, pss_cons (ps_set (i := 1) scOd.nd rfl (.inl rfl) (pe_lst (t := tLws K oddL) (lws_cons (lw_non pe_non) (lws_cons (lw_bl pe_bl) (lws_cons (lw_bl pe_bl) (lws_cons (lw_neg (pe_un un_neg pe_int)) (lws_cons (lw_int pe_int) (lws_cons (lw_int pe_int) (lws_cons (lw_int pe_int) (lws_cons (lw_int pe_int) (lws_cons (lw_pow (pe_op op_pow pe_int pe_int) ⟨by decide, by decide, by decide⟩) (lws_cons (lw_str pe_str) (lws_cons (lw_str pe_str) (lws_cons (lw_tup (lws_nil) (by decide)) (lws_cons (lw_lst (lws_nil) (by decide)) (lws_cons (lw_dict) (lws_cons (lw_tup (lws_cons (lw_int pe_int) lws_nil) (by decide)) (lws_cons (lw_lst (lws_cons (lw_int pe_int) lws_nil) (by decide)) (lws_cons (lw_tup (lws_cons (lw_bl pe_bl) lws_nil) (by decide)) (lws_cons (lw_tup (lws_cons (lw_tup (lws_cons (lw_int pe_int) lws_nil) (by decide)) lws_nil) (by decide)) (lws_cons (lw_a1 (pe_disp (pps_cons pe_str pe_int pps_nil) rfl rfl (by simp) (by decide))) lws_nil)))))))))))))))))))))
      (pss_one (ps_ret (pe_ix ix_list (pv 1) (pe_call GDr (hr.mono (by omega)) (by rfl) gDr FDr.kp bDr .nil pass0 (pa_cons (pv 0) (pa_cons (pe_int) pa_nil))) (fun _ _ => rfl)))), ?_⟩
    refine ⟨dom H, fun _ h => h, fun H1 vals s1 hall => ⟨by rw [DwAll.len hall]; decide, fun Lt nLt => ?_⟩⟩
    have sL := sameNew (o := .lst vals) nLt
    have dL := d0.same (s1.trans sL)
    obtain ⟨o1, o2⟩ := (d0.same s1).off nLt
    refine ⟨.ref Lt, rfl, .ref st, rfl, st, g, t, 19, rfl, dL, ht, by decide, by decide, fun H' d h0 h19 D' X' => ?_⟩
    obtain ⟨n, rfl⟩ : ∃ n : Nat, d = n := ⟨d.toNat, by omega⟩
    have hL := X' _ _ upd_same o1 o2
    have hallL := (hall.lx (.of sL)).lx (.ext dL X' d0.occ.1 d0.occ.2)
    have hvl : vals.length = 19 := by rw [DwAll.len hall]; rfl
    have hn : n < vals.length := by omega
    obtain ⟨dd, hdd, hdq⟩ := DwAll.at hallL (List.getElem?_eq_getElem hn)
    exact ⟨Lt, _, _, _, rfl, rfl, SqL.of hL, atI_nat (List.getElem?_eq_getElem hn), q _ _ _ D' ((Ext.of (s1.trans sL)).trans X') hdq (odd_fit dd (List.mem_of_getElem? hdd))⟩
end
end Pv

namespace Pv
open PySem PySem.Spec PyProof.Rows L2
abbrev sNr : Stmt := topS 30
theorem scNr : FnScope ["_law_deck", "_law_value", "_law_spot", "_law_other", "_law_more", "_law_found", "_law_moved", "_law_number"] ["_law_deck", "_law_value"] (defScope sNr) := ⟨rfl, rfl, rfl, by decide +kernel, rfl, by decide +kernel, by decide +kernel⟩
theorem ext_dom {H H1 : Hp} {st g : Addr} {t t' : Nat} (d0 : DV H st g t) (x : Ext st g H H1) (d1 : DV H1 st g t') {a : Addr} (h : dom H a) : dom H1 a := by
  by_cases h1 : a = st
  · rw [h1]; exact d1.occ.1
  by_cases h2 : a = g
  · rw [h2]; exact d1.occ.2
  unfold dom at *
  cases e : H a with
  | none => exact absurd e h
  | some o => rw [x _ _ e h1 h2]; simp
theorem ext_new {H H1 : Hp} {st g : Addr} {t t' : Nat} (d0 : DV H st g t) (x : Ext st g H H1) (d1 : DV H1 st g t') {a : Addr} (n : H1 a = none) (h : dom H a) : False := ext_dom d0 x d1 h n
theorem IT.cutN {K : PySem.W.Frag} {H : Hp} {a : Addr} {L M : Nat} {Q : VK} {σ : L2.St} (h : IT K H a L M) (lo : Option Int) (q : ∀ (H' : Hp) (b : Addr), Same H H' → IT K H' b L M → Q (.ref b) H') : tNoPart σ H (fun u H3 => rSlA K (.ref a) lo u H3 Q) := IT.cut h lo none q
def MM : Nat := 10 ^ 12
theorem wt_ints (ns : List Int) : wtAll (ns.map PyData.int) = ns.length * 42 := by
  induction ns with
  | nil => rfl
  | cons a ns ih => simp only [List.map_cons, wtAll, wt, ih, List.length_cons]; omega
def VF (K : PySem.W.Frag) (X : Addr → Prop) (H : Hp) (v : V) : Prop := ∃ d, Dw K X H v d ∧ Fit (10 ^ 29) 4 5000 d
theorem VF.l {K : PySem.W.Frag} {X : Addr → Prop} {H H' : Hp} {v : V} (h : VF K X H v) (l : LX X H H') : VF K X H' v := by
  obtain ⟨d, h1, h2⟩ := h; exact ⟨d, h1.lx l, h2⟩
theorem IT.vf {K : PySem.W.Frag} {X : Addr → Prop} {H : Hp} {p : Addr} {L M : Nat} (h : IT K H p L M) (hL : L ≤ 100) (hM : M ≤ 10 ^ 29) : VF K X H (.ref p) := by
  obtain ⟨xs, h1, h2, h3⟩ := h
  exact ⟨dI xs, .of_dp (to_ints xs) (dI_sq h1), (fit_dI h3).mono hM (by decide) (by omega)⟩
section
variable {P : Program} {w : World} {K : PySem.W.Frag} {mg : Str → Option Value} {base : Heap}
def spNr (K : PySem.W.Frag) : Sp := fun vs H Q _ => ∃ (st g : Addr) (t : Nat) (b : Addr) (xs : List Int), vs = [.ref st, .ref b] ∧ DV H st g t ∧ t + 30 ≤ 1000000 ∧ SqT K H b (xs.map V.int) ∧ 1 ≤ xs.length ∧ xs.length ≤ 10 ∧ (∀ x ∈ xs, x.natAbs ≤ 10 ^ 12) ∧
  ∀ (H' : Hp) (v : V) (d : PyData) (t' : Nat), DV H' st g t' → t' ≤ t + 25 → Ext st g H H' → Dw K (dom H) H' v d → Fit (10 ^ 29) 4 5000 d → Q v H'
set_option maxHeartbeats 8000000 in
theorem ok_Nr {f fDr fOd : Addr} {fd fdDr fdOd : FuncData} (F : Fun K "_law_near" "_law_near" sNr f fd)
    (FDr : Fun K "_law_next" "_law_next" sDr fDr fdDr) (bDr : Binds K fdDr ["_law_deck", "_law_many"] []) (gDr : mg "_law_next" = some (.ref fDr)) (GDr : FnOk P w K mg base CX0 1 fDr fdDr ["_law_deck", "_law_many"] spDraw)
    (FOd : Fun K "_law_odd" "_law_odd" sOd fOd fdOd) (bOd : Binds K fdOd ["_law_deck"] []) (gOd : mg "_law_odd" = some (.ref fOd)) (GOd : FnOk P w K mg base CX0 2 fOd fdOd ["_law_deck"] (spOd K))
    (m_len : mg "len" = none) (m_max : mg "max" = none) (m_tuple : mg "tuple" = none) (m_list : mg "list" = none) :
    FnOk P w K mg base CX0 3 f fd ["_law_deck", "_law_value"] (spNr K) := by
  refine F.ok scNr (fun vs H Q E h => ?_) (fun cdv A outer s H vs Q E hr h => ?_)
  · obtain ⟨st, g, t, b, xs, rfl, _⟩ := h; rfl
  · obtain ⟨st, g, t, b, xs, rfl, d0, ht, hB, l1, l10, hM, q⟩ := h
    refine ⟨_, pss_cons (ps_set (i := 2) scNr.nd rfl (.inl rfl) (pe_call GDr (hr.mono (by omega)) (by rfl) gDr FDr.kp bDr .nil pass0 (pa_cons (pv 0) (pa_cons (pe_callB (call_max2 rfl) (by rfl) m_max (by decide +kernel) (pa_cons (pe_int) (pa_cons (pe_callB call_lenQ (by rfl) m_len PySem.boot_len (pa_cons (pv 1) pa_nil)) pa_nil))) pa_nil))))
      (pss_cons (ps_set (i := 3) scNr.nd rfl (.inl rfl) (pe_ix ix_list (pe_lst (pa_cons (pe_call GOd (hr.mono (by omega)) (by rfl) gOd FOd.kp bOd .nil pass0 (pa_cons (pv 0) pa_nil)) (pa_cons (pe_int) (pa_cons (pe_bl) (pa_cons (pe_un un_neg (pe_int)) pa_nil))))) (pe_call GDr (hr.mono (by omega)) (by rfl) gDr FDr.kp bDr .nil pass0 (pa_cons (pv 0) (pa_cons (pe_int) pa_nil))) (fun _ _ => rfl)))
      (pss_cons (ps_set (i := 4) scNr.nd rfl (.inl rfl) (pe_op op_catA (pe_slice sl_tupA (pv 1) po_none (po_some (pv 2))) (pe_callTy call_tupQ (by rfl) m_tuple (by decide +kernel) (pa_cons (pe_lc (own := [("_law_number", 7)]) (g := gName 7) (tt := tYes) (te := tOp (rI0 fun i j => .int (i + j)) (tVar 7) (tOp (rIxL K) (tLst (tCons (tC (.int 1)) (tCons (tUn (rU fun i => .int (-i)) (tC (.int 1))) (tCons (tC (.int 2)) tNil)))) (tCall spDraw [] E0 (tCons (tVar 0) (tCons (tC (.int 3)) tNil))))) rfl scNr.nd (pi_tup (pe_slice sl_tupA (pv 1) (po_some (pv 2)) (po_some (pe_op op_add (pv 2) (pe_int))))) (blkOk_by (N := ["_law_deck", "_law_value", "_law_spot", "_law_other", "_law_more", "_law_found", "_law_moved", "_law_number"]) (sc := defScope sNr) (by decide +kernel)) (fun _ _ _ _ _ => pg_name (i := 7) scNr.nd rfl (.inl rfl)) (fun _ _ _ _ _ => pts_nil) (fun _ _ _ _ _ => pe_op op_add (pv 7) (pe_ix ix_list (pe_lst (pa_cons (pe_int) (pa_cons (pe_un un_neg (pe_int)) (pa_cons (pe_int) pa_nil)))) (pe_call GDr (hr.mono (by omega)) (by rfl) gDr FDr.kp bDr .nil pass0 (pa_cons (pv 0) (pa_cons (pe_int) pa_nil))) (fun _ _ => rfl)))) pa_nil))))
      (pss_cons (ps_set (i := 5) scNr.nd rfl (.inl rfl) (pe_lst (pa_cons (pe_op op_catA (pe_op op_catA (pe_slice sl_tupA (pv 1) po_none (po_some (pv 2))) (pe_tup (pa_cons (pv 3) pa_nil))) (pe_slice sl_tupA (pv 1) (po_some (pe_op op_add (pv 2) (pe_int))) po_none)) (pa_cons (pe_op op_catA (pv 4) (pe_slice sl_tupA (pv 1) (po_some (pe_op op_add (pv 2) (pe_int))) po_none)) (pa_cons (pe_slice sl_tupA (pv 1) po_none (po_some (pe_un un_neg (pe_int)))) (pa_cons (pe_op op_catA (pv 1) (pe_tup (pa_cons (pe_int) pa_nil))) (pa_cons (pe_revT (pv 1)) pa_nil)))))))
      (pss_cons (ps_set (i := 6) scNr.nd rfl (.inl rfl) (pe_op op_catA (pe_slice sl_tupA (pv 1) po_none (po_some (pv 2))) (pe_callTy call_tupQ (by rfl) m_tuple (by decide +kernel) (pa_cons (pe_lc (own := [("_law_number", 7)]) (g := gName 7) (tt := tYes) (te := tCB (fun xs H Q => ∃ i j, xs = [.int i, .int j] ∧ Q (.int (if j > i then j else i)) H) (tCons (tC (.int 0)) (tCons (tOp (rI0 fun i j => .int (i - j)) (tVar 7) (tC (.int 1))) tNil))) rfl scNr.nd (pi_tup (pe_slice sl_tupA (pv 1) (po_some (pv 2)) (po_some (pe_op op_add (pv 2) (pe_int))))) (blkOk_by (N := ["_law_deck", "_law_value", "_law_spot", "_law_other", "_law_more", "_law_found", "_law_moved", "_law_number"]) (sc := defScope sNr) (by decide +kernel)) (fun _ _ _ _ _ => pg_name (i := 7) scNr.nd rfl (.inl rfl)) (fun _ _ _ _ _ => pts_nil) (fun _ _ _ _ _ => pe_callB (call_max2 rfl) (by rfl) m_max (by decide +kernel) (pa_cons (pe_int) (pa_cons (pe_op op_sub (pv 7) (pe_int)) pa_nil)))) pa_nil))))
      (pss_cons (ps_set (i := 5) scNr.nd rfl (.inl rfl) (pe_op op_cat (pv 5) (pe_lst (pa_cons (pe_op op_catA (pe_op op_catA (pv 6) (pe_callTy call_tupQ (by rfl) m_tuple (by decide +kernel) (pa_cons (pe_lc (own := [("_law_number", 7)]) (g := gName 7) (tt := tYes) (te := tOp (rI0 fun i j => .int (i + j)) (tVar 7) (tC (.int 1))) rfl scNr.nd (pi_tup (pe_slice sl_tupA (pv 1) (po_some (pe_op op_add (pv 2) (pe_int))) (po_some (pe_op op_add (pv 2) (pe_int))))) (blkOk_by (N := ["_law_deck", "_law_value", "_law_spot", "_law_other", "_law_more", "_law_found", "_law_moved", "_law_number"]) (sc := defScope sNr) (by decide +kernel)) (fun _ _ _ _ _ => pg_name (i := 7) scNr.nd rfl (.inl rfl)) (fun _ _ _ _ _ => pts_nil) (fun _ _ _ _ _ => pe_op op_add (pv 7) (pe_int))) pa_nil))) (pe_slice sl_tupA (pv 1) (po_some (pe_op op_add (pv 2) (pe_int))) po_none)) pa_nil))))
      (pss_one (ps_ret (pe_ix ix_list (pe_op op_cat (pv 5) (pe_lst (pa_cons (pe_callTy call_listS (by rfl) m_list (by decide +kernel) (pa_cons (pv 1) pa_nil)) (pa_cons (pe_call GOd (hr.mono (by omega)) (by rfl) gOd FOd.kp bOd .nil pass0 (pa_cons (pv 0) pa_nil)) pa_nil)))) (pe_call GDr (hr.mono (by omega)) (by rfl) gDr FDr.kp bDr .nil pass0 (pa_cons (pv 0) (pa_cons (pe_int) pa_nil))) (fun _ _ => rfl))))))))), ?_⟩
    have hb0 : IT K H b 10 MM := ⟨xs, hB, l10, fun x hx => by have := hM x hx; unfold MM; omega⟩
    refine ⟨.ref st, rfl, .ref b, rfl, b, _, rfl, .inr hB, _, _, rfl, st, g, t, _, rfl, d0, by omega, by simp only [List.length_map]; split <;> omega, by simp only [List.length_map]; split <;> omega, fun H1 sp h10 h11 D1 X1 => ?_⟩
    -- other
    refine ⟨.ref st, rfl, st, g, _, rfl, D1, by omega, fun H2 vo dO D2 X2 hO fO => ⟨1, rfl, (show (4 : Nat) ≤ sizeLine by decide), fun Lt nLt => ⟨.ref st, rfl, st, g, _, 4, rfl, D2.new nLt, by omega, by decide, by decide, fun H3 k h30 h31 D3 X3 => ?_⟩⟩⟩
    obtain ⟨oL1, oL2⟩ := D2.off nLt
    have hdom1 : ∀ {a : Addr}, dom H a → dom H1 a := fun {a} h => ext_dom d0 X1 D1 h
    have Xa : Ext st g H H3 := X1.trans (X2.trans ((Ext.of (sameNew nLt)).trans X3))
    have hO3 : Dw K (dom H) H3 vo dO := ((hO.weak fun a h => hdom1 h).lx (.of (sameNew nLt))).lx (.ext (D2.new nLt) X3 d0.occ.1 d0.occ.2)
    obtain ⟨vt, dt, hat, hdt, hft⟩ : ∃ vt dt, atI [vo, .int 0, .bl true, .int (-1)] k = some vt ∧ Dw K (dom H) H3 vt dt ∧ Fit (10 ^ 29) 2 500 dt := by
      obtain h | h | h | h : k = 0 ∨ k = 1 ∨ k = 2 ∨ k = 3 := by omega
      · exact ⟨vo, dO, by rw [h]; rfl, hO3, fO⟩
      · exact ⟨.int 0, .int 0, by rw [h]; rfl, .int 0, Fit.int (by decide) (by decide)⟩
      · exact ⟨.bl true, .bool true, by rw [h]; rfl, .bl true, by simp [fit], by simp [PyData.depth], by simp [wt]⟩
      · exact ⟨.int (-1), .int (-1), by rw [h]; rfl, .int (-1), Fit.int (by decide) (by decide)⟩
    refine ⟨Lt, _, _, vt, rfl, rfl, SqL.of (X3 _ _ upd_same oL1 oL2), hat, ?_⟩
    have hb3 := hb0.tk (d0.tup Xa)
    -- more
    refine ⟨.ref b, rfl, .int sp, rfl, _, rfl, IT.cut hb3 none (some sp) fun H4 p4 s4 h4 => ?_⟩
    refine ⟨.ref b, rfl, .int sp, rfl, _, rfl, .int sp, rfl, _, _, rfl, rfl, _, rfl, IT.cut (hb3.same s4) (some sp) (some (sp + 1)) fun H5 p5 s5 h5 => ?_⟩
    obtain ⟨zs, hz5, lz, mz⟩ := h5
    have D5 := D3.same (s4.trans s5)
    refine ⟨p5, rfl, ⟨_, hz5⟩, fun D nD => lc_it (walk_tup (K := K) (a := p5) (xs := zs.map V.int))
      (fun j H6 => ∃ (t6 : Nat) (ks : List Int), DV H6 st g t6 ∧ t6 ≤ t + 3 + j ∧ Ext st g H5 H6 ∧ H6 D = some (.lst (ks.map V.int)) ∧ ks.length = j ∧ ∀ k ∈ ks, k.natAbs ≤ MM + 2)
      ⟨_, [], D5.new nD, by omega, Ext.of (sameNew nD), upd_same, rfl, fun _ h => (by cases h)⟩ (fun j H6 _ h => by obtain ⟨_, _, _, _, X6, _⟩ := h; exact (D5.tup X6).sq hz5) ?_ ?_⟩
    · rintro j v H6 H6' hlt ⟨t6, ks, D6, ht6, X6, e6, lk, mk⟩ ⟨rfl, hv⟩
      have hv : (zs.map V.int)[j]? = some v := hv
      rw [List.getElem?_map] at hv
      obtain ⟨z, hz, rfl⟩ := Option.map_eq_some_iff.mp hv
      rw [List.length_map] at hlt
      obtain ⟨oD1, oD2⟩ := D5.off nD
      have hzm := mz z (List.mem_of_getElem? hz)
      refine ⟨rfl, .int z, rfl, 1, rfl, (show (3 : Nat) ≤ sizeLine by decide), fun L2 nL2 => ⟨.ref st, rfl, st, g, t6, 3, rfl, D6.new nL2, by omega, by decide, by decide, fun H7 k h70 h71 D7 X7 => ?_⟩⟩
      obtain ⟨oM1, oM2⟩ := D6.off nL2
      have X67 := (Ext.of (sameNew nL2)).trans X7
      obtain ⟨w, hw, hw2⟩ : ∃ w : Int, atI [V.int 1, V.int (-1), V.int 2] k = some (.int w) ∧ w.natAbs ≤ 2 := by
        obtain h | h | h : k = 0 ∨ k = 1 ∨ k = 2 := by omega
        · exact ⟨1, by rw [h]; rfl, by decide⟩
        · exact ⟨-1, by rw [h]; rfl, by decide⟩
        · exact ⟨2, by rw [h]; rfl, by decide⟩
      refine ⟨L2, _, _, .int w, rfl, rfl, SqL.of (X7 _ _ upd_same oM1 oM2), hw, _, _, rfl, rfl, _, X67 _ _ e6 oD1 oD2, by rw [List.length_map]; exact small (by omega), _, ks ++ [z + w], D7.put oD1 oD2, by omega, ?_, by rw [upd_same, List.map_append]; rfl, by simp [lk], ?_⟩
      · exact fun c o h n1 n2 => by rw [upd_ne (ne_of_none h nD)]; exact (X6.trans X67) c o h n1 n2
      · intro k hk
        rcases List.mem_append.mp hk with h | h
        · exact mk k h
        · simp at h; subst h; omega
    rintro H6 ⟨t6, ks, D6, ht6, X6, e6, lk, mk⟩
    rw [List.length_map] at ht6 lk
    refine ⟨D, _, rfl, .inl ⟨SqL.of e6, fun p6 n6 => ?_⟩⟩
    have X46 := (Ext.of s5).trans X6
    have D4 := D3.same s4
    refine IT.cat (L := 10) (L' := 10) (M := MM + 2) (((h4.tk (D4.tup X46)).same (sameNew n6)).mono (Nat.le_refl _) (by omega)) ⟨ks, SqT.of upd_same, by omega, mk⟩ (by decide) fun H7 p7 s7 h7 => ?_
    have X37 : Ext st g H3 H7 := ((Ext.of s4).trans X46).trans (Ext.of ((sameNew n6).trans s7))
    have D7 := D6.same ((sameNew n6).trans s7)
    have hb7 := hb3.tk (D3.tup X37)
    have hdt7 : Dw K (dom H) H7 vt dt := hdt.lx (.ext D3 X37 d0.occ.1 d0.occ.2)
    have X07 := Xa.trans X37
    -- found
    refine ⟨.ref b, rfl, .int sp, rfl, _, rfl, IT.cut hb7 none (some sp) fun Ha pa sa ha => ?_⟩
    obtain ⟨as, ea, la, ma⟩ := ha
    refine ⟨vt, rfl, (show (1 : Nat) ≤ sizeLine by decide), fun pt nt => cat_eq (sqS (sameNew nt) ea) (SqT.of upd_same) (by rw [List.length_map]; exact small6 (by simp; omega)) fun Hb pb sb hb => ?_⟩
    have sab := (sameNew (o := .tup [vt]) nt).trans sb
    have s7b := sa.trans sab
    refine ⟨.ref b, rfl, .int sp, rfl, _, _, rfl, rfl, _, rfl, IT.cutN (hb7.same s7b) (some (sp + 1)) fun Hc pc sc hc => ?_⟩
    obtain ⟨cs, ec, lc, mc⟩ := hc
    refine cat_eq (sqS sc hb) ec (by rw [List.length_append, List.length_map, List.length_map]; exact small6 (by simp; omega)) fun Hd pd sd hd => ?_
    have s7d := s7b.trans (sc.trans sd)
    have vA : VF K (dom H) Hd (.ref pd) := by
      refine ⟨.tuple (as.map PyData.int ++ [dt] ++ cs.map PyData.int), .tup hd (((DwAll.of_dp (to_ints as) (dp_ints as)).app (.cons (hdt7.lx (.of s7d)) .nil)).app (DwAll.of_dp (to_ints cs) (dp_ints cs))), ?_⟩
      refine Fit.tup ?_ (by decide) ?_
      · intro d hd
        rcases List.mem_append.mp hd with h | h
        · rcases List.mem_append.mp h with h | h
          · obtain ⟨x, hx, rfl⟩ := List.mem_map.mp h
            exact ⟨by have := ma x hx; simp only [fit]; unfold MM at this; omega, by simp [PyData.depth]⟩
          · simp at h; subst h; exact ⟨hft.ok, by have := hft.dp; omega⟩
        · obtain ⟨x, hx, rfl⟩ := List.mem_map.mp h
          exact ⟨by have := mc x hx; simp only [fit]; unfold MM at this; omega, by simp [PyData.depth]⟩
      · rw [wtAll_app, wtAll_app, wt_ints, wt_ints]
        have := hft.wt
        simp only [wtAll]
        omega
    -- more + value[spot + 1:]
    refine ⟨.ref p7, rfl, .ref b, rfl, .int sp, rfl, _, _, rfl, rfl, _, rfl, IT.cutN (hb7.same s7d) (some (sp + 1)) fun He pe se he => ?_⟩
    refine IT.cat (h7.same (s7d.trans se)) (he.mono (L' := 10) (M' := MM + 2) (Nat.le_refl _) (by omega)) (by decide) fun Hf pf sf hf => ?_
    have s7f := s7d.trans (se.trans sf)
    refine ⟨.ref b, rfl, 1, rfl, _, rfl, IT.cut (hb7.same s7f) none (some (-1)) fun Hg pg sg hg => ?_⟩
    refine ⟨.ref b, rfl, (show (1 : Nat) ≤ sizeLine by decide), fun pz nz => IT.cat (L := 10) (L' := 1) (M := MM) (hb7.same ((s7f.trans sg).trans (sameNew nz))) ⟨[0], SqT.of upd_same, by decide, by simp [MM]⟩ (by decide) fun Hh ph sh hh => ?_⟩
    have sgh := (sameNew (o := .tup [.int 0]) nz).trans sh
    have s7h := (s7f.trans sg).trans sgh
    refine ⟨.ref b, rfl, b, _, rfl, (d0.tup (X07.trans (Ext.of s7h))).sq hB, fun pr nr => ⟨(show (5 : Nat) ≤ sizeLine by decide), fun Fo nFo => ?_⟩⟩
    have sF := (sameNew (o := .tup (xs.map V.int).reverse) nr).trans (sameNew (o := .lst [.ref pd, .ref pf, .ref pg, .ref ph, .ref pr]) nFo)
    have s7F := s7h.trans sF
    have hr : IT K (upd (upd Hh pr (.tup (xs.map V.int).reverse)) Fo (.lst [.ref pd, .ref pf, .ref pg, .ref ph, .ref pr])) pr 10 MM := by
      obtain ⟨ys, ey, ly, my⟩ := hb0
      refine ⟨xs.reverse, by rw [List.map_reverse]; exact SqT.of (upNew nFo upd_same), by rw [List.length_reverse]; exact l10, fun x hx => ?_⟩
      have := hM x (List.mem_reverse.mp hx); unfold MM; omega
    have hVF : ∀ v ∈ [V.ref pd, .ref pf, .ref pg, .ref ph, .ref pr], VF K (dom H) (upd (upd Hh pr (.tup (xs.map V.int).reverse)) Fo (.lst [.ref pd, .ref pf, .ref pg, .ref ph, .ref pr])) v := by
      intro v hv
      simp only [List.mem_cons, List.not_mem_nil, or_false] at hv
      rcases hv with rfl | rfl | rfl | rfl | rfl
      · exact vA.l (.of ((se.trans sf).trans ((sg.trans sgh).trans sF)))
      · exact IT.vf (hf.same ((sg.trans sgh).trans sF)) (by decide) (by decide)
      · exact IT.vf (hg.same (sgh.trans sF)) (by decide) (by decide)
      · exact IT.vf (hh.same sF) (by decide) (by decide)
      · exact IT.vf hr (by decide) (by decide)
    have eFo : (upd (upd Hh pr (.tup (xs.map V.int).reverse)) Fo (.lst [.ref pd, .ref pf, .ref pg, .ref ph, .ref pr])) Fo = some (.lst [.ref pd, .ref pf, .ref pg, .ref ph, .ref pr]) := upd_same
    have oFo := (D7.same s7h |>.same (sameNew (o := .tup (xs.map V.int).reverse) nr)).off nFo
    generalize upd (upd Hh pr (.tup (xs.map V.int).reverse)) Fo (.lst [.ref pd, .ref pf, .ref pg, .ref ph, .ref pr]) = H8 at sF s7F hr hVF eFo
    have D8 := D7.same s7F
    have hb8 := hb7.same s7F
    -- moved
    refine ⟨.ref b, rfl, .int sp, rfl, _, rfl, IT.cut hb8 none (some sp) fun Hi pi si hi => ?_⟩
    refine ⟨.ref b, rfl, .int sp, rfl, _, rfl, .int sp, rfl, _, _, rfl, rfl, _, rfl, IT.cut (hb8.same si) (some sp) (some (sp + 1)) fun Hj pj sj hj => ?_⟩
    obtain ⟨ys, hy, ly, my⟩ := hj
    refine ⟨pj, rfl, ⟨_, hy⟩, fun D' nD' => lc_it (walk_tup (K := K) (a := pj) (xs := ys.map V.int))
      (LcP Hj D' ys (fun z => some (.int (if z - 1 > 0 then z - 1 else 0)))) (.start nD') (fun j H _ h => sqS h.1 hy) ?_ ?_⟩
    · rintro m v H9 H10 hm hL ⟨rfl, hv⟩
      have hv : (ys.map V.int)[m]? = some v := hv
      rw [List.getElem?_map] at hv
      obtain ⟨z, hz, rfl⟩ := Option.map_eq_some_iff.mp hv
      rw [List.length_map] at hm
      exact ⟨rfl, .int z, rfl, _, _, rfl, rfl, _, _, rfl, hL.yes nD' (Same.refl _) hz rfl (by omega)⟩
    rintro Hk hL
    have ek := hL.done (by rw [List.length_map]; exact Nat.le_refl _)
    have emap : ys.filterMap (fun z => some (V.int (if z - 1 > 0 then z - 1 else 0))) = (ys.map (fun z => if z - 1 > 0 then z - 1 else 0)).map V.int := by rw [fm_map, List.map_map]; rfl
    rw [emap] at ek
    refine ⟨D', _, rfl, .inl ⟨SqL.of ek, fun pm nm => ?_⟩⟩
    have s8k := si.trans (sj.trans hL.1)
    refine IT.cat (L := 10) (L' := 10) (M := MM + 2) (((hi.same (sj.trans hL.1)).same (sameNew nm)).mono (Nat.le_refl _) (by omega)) ⟨_, SqT.of upd_same, by rw [List.length_map]; omega, fun x hx => ?_⟩ (by decide) fun Hl pl sl hl => ?_
    · obtain ⟨z, hz, rfl⟩ := List.mem_map.mp hx
      have := my z hz
      split <;> omega
    have s8l := s8k.trans ((sameNew nm).trans sl)
    have hb9 := hb8.same s8l
    -- found + [..]
    refine ⟨.ref Fo, rfl, .ref pl, rfl, .ref b, rfl, .int sp, rfl, _, _, rfl, rfl, _, rfl, .int sp, rfl, _, _, rfl, rfl, _, rfl, IT.cut hb9 (some (sp + 1)) (some (sp + 2)) fun Hn pn sn hn => ?_⟩
    obtain ⟨us, hu, lu, mu⟩ := hn
    refine ⟨pn, rfl, ⟨_, hu⟩, fun D2' nD2' => lc_it (walk_tup (K := K) (a := pn) (xs := us.map V.int))
      (LcP Hn D2' us (fun z => some (.int (z + 1)))) (.start nD2') (fun j H _ h => sqS h.1 hu) ?_ ?_⟩
    · rintro m v H9 H10 hm hL ⟨rfl, hv⟩
      have hv : (us.map V.int)[m]? = some v := hv
      rw [List.getElem?_map] at hv
      obtain ⟨z, hz, rfl⟩ := Option.map_eq_some_iff.mp hv
      rw [List.length_map] at hm
      exact ⟨rfl, .int z, rfl, _, _, rfl, rfl, hL.yes nD2' (Same.refl _) hz rfl (by omega)⟩
    rintro Ho hL2
    have eo := hL2.done (by rw [List.length_map]; exact Nat.le_refl _)
    have emap2 : us.filterMap (fun z => some (V.int (z + 1))) = (us.map (fun z => z + 1)).map V.int := by rw [fm_map, List.map_map]; rfl
    rw [emap2] at eo
    refine ⟨D2', _, rfl, .inl ⟨SqL.of eo, fun pq nq => ?_⟩⟩
    have slo := sn.trans hL2.1
    refine IT.cat (L := 20) (L' := 10) (M := MM + 2) ((hl.same slo).same (sameNew nq)) ⟨_, SqT.of upd_same, by rw [List.length_map]; omega, fun x hx => ?_⟩ (by decide) fun Hp' pp sp' hp => ?_
    · obtain ⟨z, hz, rfl⟩ := List.mem_map.mp hx
      have := mu z hz
      omega
    have s8p := s8l.trans (slo.trans ((sameNew nq).trans sp'))
    refine ⟨.ref b, rfl, .int sp, rfl, _, _, rfl, rfl, _, rfl, IT.cutN (hb8.same s8p) (some (sp + 2)) fun Hq pq2 sq hq => ?_⟩
    refine IT.cat (hp.same sq) (hq.mono (L' := 10) (M' := MM + 2) (Nat.le_refl _) (by omega)) (by decide) fun Hr pr2 sr hr2 => ⟨(show (1 : Nat) ≤ sizeLine by decide), fun La nLa => ?_⟩
    have s8r := s8p.trans (sq.trans sr)
    have sLa := sameNew (o := .lst [.ref pr2]) nLa
    refine ⟨Fo, La, _, _, rfl, rfl, (s8r.trans sLa) _ _ eFo, upd_same, (show (6 : Nat) ≤ sizeLine by decide), fun F2 nF2 => ?_⟩
    have sF2 := sameNew (o := .lst ([V.ref pd, .ref pf, .ref pg, .ref ph, .ref pr] ++ [.ref pr2])) nF2
    have s8F := (s8r.trans sLa).trans sF2
    have oF2 := (D8.same (s8r.trans sLa)).off nF2
    have hVF2 : ∀ v ∈ [V.ref pd, .ref pf, .ref pg, .ref ph, .ref pr] ++ [.ref pr2], VF K (dom H) (upd (upd Hr La (.lst [.ref pr2])) F2 (.lst ([V.ref pd, .ref pf, .ref pg, .ref ph, .ref pr] ++ [.ref pr2]))) v := by
      intro v hv
      rcases List.mem_append.mp hv with h | h
      · exact (hVF v h).l (.of s8F)
      · simp at h; subst h; exact IT.vf (hr2.same (sLa.trans sF2)) (by decide) (by decide)
    have eF2 : (upd (upd Hr La (.lst [.ref pr2])) F2 (.lst ([V.ref pd, .ref pf, .ref pg, .ref ph, .ref pr] ++ [.ref pr2]))) F2 = some (.lst ([V.ref pd, .ref pf, .ref pg, .ref ph, .ref pr] ++ [.ref pr2])) := upd_same
    generalize hvs : [V.ref pd, .ref pf, .ref pg, .ref ph, .ref pr] ++ [.ref pr2] = vs6 at *
    have l6 : vs6.length = 6 := by rw [← hvs]; rfl
    generalize upd (upd Hr La (.lst [.ref pr2])) F2 (.lst vs6) = H9 at sF2 s8F hVF2 eF2
    have D9 := D8.same s8F
    have X09 : Ext st g H H9 := X07.trans (Ext.of (s7F.trans s8F))
    -- the end
    refine ⟨.ref F2, rfl, .ref b, rfl, b, _, rfl, (d0.tup X09).sq hB, fun Lv nLv mLv => ?_⟩
    have sLv := sameNew (o := .lst (xs.map V.int)) nLv
    obtain ⟨oLv1, oLv2⟩ := D9.off nLv
    have vL : VF K (dom H) (upd H9 Lv (.lst (xs.map V.int))) (.ref Lv) := by
      refine ⟨.list (xs.map PyData.int), .lst upd_same (fun h => ext_new d0 X09 D9 nLv h) mLv (DwAll.of_dp (to_ints xs) (dp_ints xs)), Fit.lst ?_ (by decide) (by rw [wt_ints]; omega)⟩
      intro d hd
      obtain ⟨x, hx, rfl⟩ := List.mem_map.mp hd
      exact ⟨by have := hM x hx; simp only [fit]; omega, by simp [PyData.depth]⟩
    have D10 := D9.same sLv
    refine ⟨.ref st, rfl, st, g, _, rfl, D10, by omega, fun H11 v2 d2 D11 X11 hd2 f2 => ⟨(show (2 : Nat) ≤ sizeLine by decide), fun Lb nLb => ?_⟩⟩
    have sLb := sameNew (o := .lst [.ref Lv, v2]) nLb
    have eF11 := X11 _ _ (sLv _ _ eF2) oF2.1 oF2.2
    refine ⟨F2, Lb, _, _, rfl, rfl, sLb _ _ eF11, upd_same, (by rw [l6]; exact (show (8 : Nat) ≤ sizeLine by decide)), fun Lc nLc => ?_⟩
    have sLc := sameNew (o := .lst (vs6 ++ [.ref Lv, v2])) nLc
    have D12 := D11.same (sLb.trans sLc)
    obtain ⟨oLc1, oLc2⟩ := (D11.same sLb).off nLc
    refine ⟨.ref st, rfl, st, g, _, 8, rfl, D12, by omega, by decide, by decide, fun H13 k h130 h131 D13 X13 => ?_⟩
    obtain ⟨kn, rfl⟩ : ∃ kn : Nat, k = kn := ⟨k.toNat, by omega⟩
    have hkn : kn < (vs6 ++ [.ref Lv, v2]).length := by rw [List.length_append, l6]; simp; omega
    refine ⟨Lc, _, _, _, rfl, rfl, SqL.of (X13 _ _ upd_same oLc1 oLc2), atI_nat (List.getElem?_eq_getElem hkn), ?_⟩
    have l13 := ((LX.of (X := dom H) (sLb.trans sLc)).trans (.ext D12 X13 d0.occ.1 d0.occ.2))
    have hfin : VF K (dom H) H13 (vs6 ++ [.ref Lv, v2])[kn] := by
      have hmem := List.getElem_mem hkn
      rcases List.mem_append.mp hmem with h | h
      · exact (((hVF2 _ h).l (.of sLv)).l (.ext D10 X11 d0.occ.1 d0.occ.2)).l l13
      · simp only [List.mem_cons, List.not_mem_nil, or_false] at h
        rcases h with h | h
        · rw [h]; exact (vL.l (.ext D10 X11 d0.occ.1 d0.occ.2)).l l13
        · rw [h]; exact VF.l ⟨d2, hd2.weak fun a h => ext_dom d0 (X09.trans (Ext.of sLv)) D10 h, f2.mono (by decide) (by decide) (by decide)⟩ l13
    obtain ⟨dF, hdF, fF⟩ := hfin
    exact q _ _ dF _ D13 (by omega) ((X09.trans (Ext.of sLv)).trans (X11.trans ((Ext.of (sLb.trans sLc)).trans X13))) hdF fF
end
end Pv

namespace Pv
open PySem PySem.Spec PyProof.Rows L2
abbrev sLaw : Stmt := topS 31
theorem scLaw : FnScope ["_law_script", "_law_deck", "_law_turn", "_law_top", "_law_instance_here", "_law_values", "_law_value", "_law_kept", "_law_due", "_law_group", "_law_k"] ["_law_script"] (defScope sLaw) := ⟨rfl, rfl, rfl, by decide +kernel, rfl, by decide +kernel, by decide +kernel⟩
def ITn (K : PySem.W.Frag) (H : Hp) (p : Addr) : Prop := ∃ xs : List Int, SqT K H p (xs.map V.int) ∧ 1 ≤ xs.length ∧ xs.length ≤ 10 ∧ ∀ x ∈ xs, x.natAbs ≤ 10 ^ 12
theorem ITn.tk {K : PySem.W.Frag} {H H' : Hp} {p : Addr} (h : ITn K H p) (s : TupK H H') : ITn K H' p := by obtain ⟨xs, h1, h2⟩ := h; exact ⟨xs, s.sq h1, h2⟩
theorem ITn.vf {K : PySem.W.Frag} {X : Addr → Prop} {H : Hp} {p : Addr} (h : ITn K H p) : VF K X H (.ref p) := by
  obtain ⟨xs, h1, h2, h3, h4⟩ := h
  exact IT.vf (L := 10) (M := 10 ^ 12) ⟨xs, h1, h3, h4⟩ (by decide) (by decide)
def X2 (st g : Addr) (a : Addr) : Prop := a = st ∨ a = g
theorem x2_dom {H : Hp} {st g a : Addr} {t : Nat} (d : DV H st g t) (h : X2 st g a) : dom H a := by
  rcases h with h | h
  · rw [h]; exact d.occ.1
  · rw [h]; exact d.occ.2
def Xd3 (st g D : Addr) (a : Addr) : Prop := a = st ∨ a = g ∨ a = D
/-- the values to be asked -/
structure VS (K : PySem.W.Frag) (st g : Addr) (H : Hp) (i : Addr) (cs : List Int) (gs : List Gp) (t : Nat) (Vs : Addr) (vs : List V) : Prop where
  d : DV H st g t
  i : Dp K H (.ref i) (dInst cs gs)
  e : H Vs = some (.lst vs)
  o1 : Vs ≠ st
  o2 : Vs ≠ g
  vf : ∀ v ∈ vs, VF K (X2 st g) H v
theorem VS.ext {K : PySem.W.Frag} {st g : Addr} {H H' : Hp} {i : Addr} {cs : List Int} {gs : List Gp} {t t' : Nat} {Vs : Addr} {vs : List V} (h : VS K st g H i cs gs t Vs vs) (x : Ext st g H H') (d : DV H' st g t') : VS K st g H' i cs gs t' Vs vs :=
  ⟨d, (h.d.tup x).dp _ _ (to_dInst _ _) h.i, x _ _ h.e h.o1 h.o2, h.o1, h.o2, fun v hv => (h.vf v hv).l (.ext h.d x (.inl rfl) (.inr rfl))⟩
section
variable {P : Program} {w : World} {K : PySem.W.Frag} {mg : Str → Option Value} {base : Heap}
def spLaw (K : PySem.W.Frag) : Sp := fun vs H Q _ => ∃ (a : Addr) (ns : List Int), vs = [.ref a] ∧ SqL K H a (ns.map V.int) ∧ ns.length ≤ 63 ∧ ∀ H', Q (.bl true) H'
set_option maxHeartbeats 16000000 in
theorem ok_Law {f fSt fDr fIn fOd fLa fNr fLv fIv fSm : Addr} {fd fdSt fdDr fdIn fdOd fdLa fdNr fdLv fdIv fdSm : FuncData} (F : Fun K "law" "law" sLaw f fd)
    (FSt : Fun K "_law_begin" "_law_begin" sSt fSt fdSt) (bSt : Binds K fdSt ["_law_script"] []) (gSt : mg "_law_begin" = some (.ref fSt)) (GSt : FnOk P w K mg base CX0 1 fSt fdSt ["_law_script"] (spStart K))
    (FDr : Fun K "_law_next" "_law_next" sDr fDr fdDr) (bDr : Binds K fdDr ["_law_deck", "_law_many"] []) (gDr : mg "_law_next" = some (.ref fDr)) (GDr : FnOk P w K mg base CX0 1 fDr fdDr ["_law_deck", "_law_many"] spDraw)
    (FIn : Fun K "_law_instance" "_law_instance" sIn fIn fdIn) (bIn : Binds K fdIn ["_law_deck", "_law_most_posts", "_law_most_groups", "_law_top"] []) (gIn : mg "_law_instance" = some (.ref fIn)) (GIn : FnOk P w K mg base CX0 3 fIn fdIn ["_law_deck", "_law_most_posts", "_law_most_groups", "_law_top"] (spInst K))
    (FOd : Fun K "_law_odd" "_law_odd" sOd fOd fdOd) (bOd : Binds K fdOd ["_law_deck"] []) (gOd : mg "_law_odd" = some (.ref fOd)) (GOd : FnOk P w K mg base CX0 2 fOd fdOd ["_law_deck"] (spOd K))
    (FLa : Fun K "_law_all_vectors" "_law_all_vectors" sLa fLa fdLa) (bLa : Binds K fdLa ["_law_instance_here"] []) (gLa : mg "_law_all_vectors" = some (.ref fLa)) (GLa : FnOk P w K mg base CX0 5 fLa fdLa ["_law_instance_here"] (spLa K))
    (FNr : Fun K "_law_near" "_law_near" sNr fNr fdNr) (bNr : Binds K fdNr ["_law_deck", "_law_value"] []) (gNr : mg "_law_near" = some (.ref fNr)) (GNr : FnOk P w K mg base CX0 3 fNr fdNr ["_law_deck", "_law_value"] (spNr K))
    (FLv : Fun K "_law_is_vector" "_law_is_vector" sLv fLv fdLv) (bLv : Binds K fdLv ["_law_instance_here", "_law_value"] []) (gLv : mg "_law_is_vector" = some (.ref fLv)) (GLv : FnOk P w K mg base CX0 4 fLv fdLv ["_law_instance_here", "_law_value"] (spIv K))
    (FIv : Fun K "is_vector" "is_vector" sIv fIv fdIv) (bIv : Binds K fdIv ["instance", "value"] []) (gIv : mg "is_vector" = some (.ref fIv)) (GIv : FnOk P w K mg base CX0 7 fIv fdIv ["instance", "value"] (spIv K))
    (FSm : Fun K "_law_same" "_law_same" sSame fSm fdSm) (bSm : Binds K fdSm ["_law_found", "_law_due"] []) (gSm : mg "_law_same" = some (.ref fSm)) (GSm : FnOk P w K mg base CX0 2 fSm fdSm ["_law_found", "_law_due"] (spS K 2))
    (m_range : mg "range" = none) (m_len : mg "len" = none) (m_tuple : mg "tuple" = none) (m_repr : mg "repr" = none) :
    FnG P w K mg base 8 f fd ["_law_script"] (spLaw K) := by
  refine okG F scLaw (fun vs H Q E h => ?_) (fun cdv A outer s H vs Q E hgd hr h => ?_)
  · obtain ⟨a, ns, rfl, _⟩ := h; rfl
  · obtain ⟨a, ns, rfl, hS, hn, q⟩ := h
    refine ⟨_, pss_cons (ps_set (i := 1) scLaw.nd rfl (.inr rfl) (pe_call GSt (hr.mono (by omega)) (by rfl) gSt FSt.kp bSt .nil pass0 (pa_cons (pv 0) pa_nil)))
      (pss_cons (ps_for PassesOwn.never rfl (pi_range1 (by rfl) m_range (pa_cons (pe_int) pa_nil)) (pg_name (i := 2) scLaw.nd rfl (.inl rfl))
        (pss_cons (ps_set (i := 3) scLaw.nd rfl (.inl rfl) (pe_ix ix_list (pe_lst (pa_cons (pe_int) (pa_cons (pe_int) (pa_cons (pe_op op_pow (pe_int) (pe_int)) pa_nil)))) (pe_call GDr (hr.mono (by omega)) (by rfl) gDr FDr.kp bDr .nil pass0 (pa_cons (pv 1) (pa_cons (pe_int) pa_nil))) (fun _ _ => rfl)))
        (pss_cons (ps_set (i := 4) scLaw.nd rfl (.inl rfl) (pe_call GIn (hr.mono (by omega)) (by rfl) gIn FIn.kp bIn .nil pass0 (pa_cons (pv 1) (pa_cons (pe_ix ix_list (pe_lst (pa_cons (pe_int) (pa_cons (pe_int) pa_nil))) (pe_call GDr (hr.mono (by omega)) (by rfl) gDr FDr.kp bDr .nil pass0 (pa_cons (pv 1) (pa_cons (pe_int) pa_nil))) (fun _ _ => rfl)) (pa_cons (pe_ix ix_list (pe_lst (pa_cons (pe_int) (pa_cons (pe_int) pa_nil))) (pe_call GDr (hr.mono (by omega)) (by rfl) gDr FDr.kp bDr .nil pass0 (pa_cons (pv 1) (pa_cons (pe_int) pa_nil))) (fun _ _ => rfl)) (pa_cons (pv 3) pa_nil))))))
        (pss_cons (ps_set (i := 5) scLaw.nd rfl (.inr rfl) (pe_lst (pa_cons (pe_callTy call_tupQ (by rfl) m_tuple (by decide +kernel) (pa_cons (pe_op op_rep (pe_lst (pa_cons (pe_int) pa_nil)) (pe_callB call_lenQ (by rfl) m_len PySem.boot_len (pa_cons (pe_ix ix_tup (pv 4) (pe_int) (fun _ _ => rfl)) pa_nil))) pa_nil)) (pa_cons (pe_callTy call_tupQ (by rfl) m_tuple (by decide +kernel) (pa_cons (pe_lc (own := [("_law_group", 9)]) (g := gName 9) (tt := tYes) (te := tOp (rIxT K) (tVar 9) (tC (.int 1))) rfl scLaw.nd (pi_tup (pe_ix ix_tup (pv 4) (pe_int) (fun _ _ => rfl))) (blkOk_by (N := ["_law_script", "_law_deck", "_law_turn", "_law_top", "_law_instance_here", "_law_values", "_law_value", "_law_kept", "_law_due", "_law_group", "_law_k"]) (sc := defScope sLaw) (by decide +kernel)) (fun _ _ _ _ _ => pg_name (i := 9) scLaw.nd rfl (.inl rfl)) (fun _ _ _ _ _ => pts_nil) (fun _ _ _ _ _ => pe_ix ix_tup (pv 9) (pe_int) (fun _ _ => rfl))) pa_nil)) (pa_cons (pe_call GOd (hr.mono (by omega)) (by rfl) gOd FOd.kp bOd .nil pass0 (pa_cons (pv 1) pa_nil)) pa_nil)))))
        (pss_cons (ps_if (pt_cmpR op_lt (pv 3) (pe_int) (nomark _))
          (pss_one (ps_set (i := 5) scLaw.nd rfl (.inr rfl) (pe_op op_cat (pv 5) (pe_slice sl_list (pe_call GLa (hr.mono (by omega)) (by rfl) gLa FLa.kp bLa .nil pass0 (pa_cons (pv 4) pa_nil)) po_none (po_some (pe_int)))))) pss_nil)
        (pss_cons (ps_set (i := 5) scLaw.nd rfl (.inr rfl) (pe_op op_cat (pv 5) (pe_lst (pa_cons (pe_call GNr (hr.mono (by omega)) (by rfl) gNr FNr.kp bNr .nil pass0 (pa_cons (pv 1) (pa_cons (pe_ix ix_list (pv 5) (pe_call GDr (hr.mono (by omega)) (by rfl) gDr FDr.kp bDr .nil pass0 (pa_cons (pv 1) (pa_cons (pe_int) pa_nil))) (fun _ _ => rfl)) pa_nil))) (pa_cons (pe_call GNr (hr.mono (by omega)) (by rfl) gNr FNr.kp bNr .nil pass0 (pa_cons (pv 1) (pa_cons (pe_ix ix_list (pv 5) (pe_int) (fun _ _ => rfl)) pa_nil))) pa_nil)))))
        (pss_cons (ps_if (pt_cmpR op_gt (pe_callB call_lenQ (by rfl) m_len PySem.boot_len (pa_cons (pv 5) pa_nil)) (pe_int) (nomark _))
          (pss_one (ps_set (i := 5) scLaw.nd rfl (.inr rfl) (pe_op op_cat (pv 5) (pe_lc (own := [("_law_k", 10)]) (g := gName 10) (tt := tYes) (te := tCall (spNr K) [] E0 (tCons (tVar 1) (tCons (tOp (rIxL K) (tVar 5) (tC (.int 3))) tNil))) rfl scLaw.nd (pi_range1 (by rfl) m_range (pa_cons (pe_int) pa_nil)) (blkOk_by (N := ["_law_script", "_law_deck", "_law_turn", "_law_top", "_law_instance_here", "_law_values", "_law_value", "_law_kept", "_law_due", "_law_group", "_law_k"]) (sc := defScope sLaw) (by decide +kernel)) (fun _ _ _ _ _ => pg_name (i := 10) scLaw.nd rfl (.inl rfl)) (fun _ _ _ _ _ => pts_nil) (fun _ _ _ _ _ => pe_call GNr (hr.mono (by omega)) (by rfl) gNr FNr.kp bNr .nil pass0 (pa_cons (pv 1) (pa_cons (pe_ix ix_list (pv 5) (pe_int) (fun _ _ => rfl)) pa_nil))))))) pss_nil)
        (pss_one (ps_for PassesOwn.never rfl (pi_list (pv 5)) (pg_name (i := 6) scLaw.nd rfl (.inl rfl))
          (pss_cons (ps_set (i := 7) scLaw.nd rfl (.inl rfl) (pe_callB (call_reprA hgd (hu70 hr)) (by rfl) m_repr (by decide +kernel) (pa_cons (pe_lstS (pa_cons (pv 4) (pa_cons (pv 6) pa_nil))) pa_nil)))
          (pss_cons (ps_set (i := 8) scLaw.nd rfl (.inl rfl) (pe_call GLv (hr.mono (by omega)) (by rfl) gLv FLv.kp bLv .nil pass0 (pa_cons (pv 4) (pa_cons (pv 6) pa_nil))))
          (pss_cons (ps_if (pt_not (pt_val (pe_call GSm (hr.mono (by omega)) (by rfl) gSm FSm.kp bSm .nil pass0 (pa_cons (pe_lst (pa_cons (pe_call GIv (hr.mono (by omega)) (by rfl) gIv FIv.kp bIv .nil pass0 (pa_cons (pv 4) (pa_cons (pv 6) pa_nil))) (pa_cons (pe_call GIv (hr.mono (by omega)) (by rfl) gIv FIv.kp bIv .nil pass0 (pa_cons (pv 4) (pa_cons (pv 6) pa_nil))) pa_nil))) (pa_cons (pe_lst (pa_cons (pv 8) (pa_cons (pv 8) pa_nil))) pa_nil)))))
            (pss_one (ps_ret (pe_bl))) pss_nil)
          (pss_one (ps_if (pt_cmpR op_ne (pe_callB (call_reprA hgd (hu70 hr)) (by rfl) m_repr (by decide +kernel) (pa_cons (pe_lstS (pa_cons (pv 4) (pa_cons (pv 6) pa_nil))) pa_nil)) (pv 7) (nomark _))
            (pss_one (ps_ret (pe_bl))) pss_nil))))))))))))))
      (pss_one (ps_ret (pe_bl)))), ?_⟩
    refine ⟨.ref a, rfl, a, ns, rfl, hS, hn, fun H1 st g s1 D1 => ?_⟩
    refine ⟨8, rfl, by omega, by omega, for_it (walk_range (lo := 0) (n := (8 : Int).toNat))
      (fun j σ H2 => ∃ (t : Nat) (y2 y3 y4 y5 y6 y7 y8 : Option V), σ = [some (.ref a), some (.ref st), y2, y3, y4, y5, y6, y7, y8, none, none] ∧ DV H2 st g t ∧ t ≤ 2000 * j)
      ⟨0, none, none, none, none, none, none, none, rfl, D1, by omega⟩ (fun _ _ _ _ _ => trivial) ?_ ?_⟩
    case _ =>
      rintro j v σ H2 H2' hlt ⟨t, y2, y3, y4, y5, y6, y7, y8, rfl, D2, ht⟩ ⟨rfl, rfl⟩
      have hj : j < 8 := hlt
      dsimp only
      -- top
      refine ⟨_, _, rfl, rfl, ⟨by decide, by decide, by decide⟩, (show (3 : Nat) ≤ sizeLine by decide), fun Z nZ => ⟨.ref st, rfl, st, g, t, 3, rfl, D2.new nZ, by omega, by decide, by decide, fun H3 k3 h30 h31 D3 X3 => ?_⟩⟩
      obtain ⟨oZ1, oZ2⟩ := D2.off nZ
      obtain ⟨top, htop, tb⟩ : ∃ top : Int, atI [V.int 2, V.int 3, V.int (10 ^ (11 : Int).toNat)] k3 = some (.int top) ∧ (1 ≤ top ∧ top ≤ 10 ^ 11) := by
        obtain h | h | h : k3 = 0 ∨ k3 = 1 ∨ k3 = 2 := by omega
        · exact ⟨2, by rw [h]; rfl, by decide⟩
        · exact ⟨3, by rw [h]; rfl, by decide⟩
        · exact ⟨10 ^ (11 : Int).toNat, by rw [h]; rfl, by decide⟩
      refine ⟨Z, _, _, .int top, rfl, rfl, SqL.of (X3 _ _ upd_same oZ1 oZ2), htop, ?_⟩
      -- instance
      refine ⟨.ref st, rfl, (show (2 : Nat) ≤ sizeLine by decide), fun Z1 nZ1 => ⟨.ref st, rfl, st, g, _, 2, rfl, D3.new nZ1, by omega, by decide, by decide, fun H4 k4 h40 h41 D4 X4 => ?_⟩⟩
      obtain ⟨oZ3, oZ4⟩ := D3.off nZ1
      obtain ⟨pm, hpm, pb⟩ : ∃ pm : Int, atI [V.int 3, V.int 6] k4 = some (.int pm) ∧ (1 ≤ pm ∧ pm ≤ 6) := by
        obtain h | h : k4 = 0 ∨ k4 = 1 := by omega
        · exact ⟨3, by rw [h]; rfl, by decide⟩
        · exact ⟨6, by rw [h]; rfl, by decide⟩
      refine ⟨Z1, _, _, .int pm, rfl, rfl, SqL.of (X4 _ _ upd_same oZ3 oZ4), hpm, (show (2 : Nat) ≤ sizeLine by decide), fun Z2 nZ2 => ⟨.ref st, rfl, st, g, _, 2, rfl, D4.new nZ2, by omega, by decide, by decide, fun H5 k5 h50 h51 D5 X5 => ?_⟩⟩
      obtain ⟨oZ5, oZ6⟩ := D4.off nZ2
      obtain ⟨gm, hgm, gb⟩ : ∃ gm : Int, atI [V.int 3, V.int 4] k5 = some (.int gm) ∧ (1 ≤ gm ∧ gm ≤ 4) := by
        obtain h | h : k5 = 0 ∨ k5 = 1 := by omega
        · exact ⟨3, by rw [h]; rfl, by decide⟩
        · exact ⟨4, by rw [h]; rfl, by decide⟩
      refine ⟨Z2, _, _, .int gm, rfl, rfl, SqL.of (X5 _ _ upd_same oZ5 oZ6), hgm, .int top, rfl, st, g, _, pm, gm, top, rfl, D5, by omega, by omega, by omega, by omega, by omega, by omega, by omega, fun H6 i t6 cs gs D6 ht6 X6 hI ok nd lcs bcs lgs bgs => ?_⟩
      obtain ⟨_, ca, ga, xs, e, hi, hc, hgt, hgs⟩ := inst_open hI
      cases e
      have lx := DpAll.len hgs
      rw [List.length_map] at lx
      have h10 := ok.g10
      have g1 := ok.g1
      -- values
      refine ⟨(show (1 : Nat) ≤ sizeLine by decide), fun Z3 nZ3 => ?_⟩
      have sZ3 := sameNew (o := .lst [.int 0]) nZ3
      refine ⟨.ref i, rfl, i, _, 1, .ref ga, rfl, rfl, sqS sZ3 hi, atI_nat (j := 1) rfl, ga, _, rfl, .inr (sqS sZ3 hgt), Z3, _, _, rfl, rfl, upd_same, by omega, by omega, (by show 1 * _ ≤ sizeLine; have := small6 (n := xs.length) (by omega); simp; omega), fun Z4 nZ4 => ⟨Z4, _, rfl, .inl ⟨SqL.of upd_same, fun p0 n0 => ?_⟩⟩⟩
      have e0 : (List.replicate ((xs.length : Nat) : Int).toNat [V.int 0]).flatten = (zeros gs.length).map V.int := by rw [Int.toNat_natCast, lx, zeros_V]
      rw [e0] at n0 ⊢
      have s0 := (sZ3.trans (sameNew (o := .lst ((zeros gs.length).map V.int)) nZ4)).trans (sameNew (o := .tup ((zeros gs.length).map V.int)) n0)
      have hp0 : SqT K (upd (upd (upd H6 Z3 (.lst [.int 0])) Z4 (.lst ((zeros gs.length).map V.int))) p0 (.tup ((zeros gs.length).map V.int))) p0 ((zeros gs.length).map V.int) := SqT.of upd_same
      generalize upd (upd (upd H6 Z3 (.lst [.int 0])) Z4 (.lst ((zeros gs.length).map V.int))) p0 (.tup ((zeros gs.length).map V.int)) = H7 at s0 hp0
      refine ⟨.ref i, rfl, i, _, 1, .ref ga, rfl, rfl, sqS s0 hi, atI_nat (j := 1) rfl, ga, rfl, ⟨_, sqS s0 hgt⟩, fun Dc nDc => lc_it (walk_tup (K := K) (a := ga) (xs := xs))
        (LcP H7 Dc gs (fun g => some (.int g.2))) (.start nDc) (fun j H _ h => sqS (s0.trans h.1) hgt) ?_ ?_⟩
      · rintro m v H8 H9 hm hL ⟨rfl, hv⟩
        have hv : xs[m]? = some v := hv
        have hmg : m < gs.length := by omega
        have hg : gs[m]? = some gs[m] := List.getElem?_eq_getElem hmg
        obtain ⟨gA, pA, hx, hG, hP⟩ := grp_at hgs hg
        rw [hx] at hv
        cases hv
        exact ⟨rfl, .ref gA, rfl, gA, _, 1, _, rfl, rfl, sqS (s0.trans hL.1) hG, atI_nat (j := 1) rfl, hL.yes nDc (Same.refl _) hg rfl (by omega)⟩
      rintro H8 hL
      have e8 := hL.done (Nat.le_of_eq lx.symm)
      have em : gs.filterMap (fun g => some (V.int g.2)) = (gs.map (·.2)).map V.int := by rw [fm_map, List.map_map]; rfl
      rw [em] at e8
      refine ⟨Dc, _, rfl, .inl ⟨SqL.of e8, fun p1 n1 => ?_⟩⟩
      have s18 := hL.1.trans (sameNew (o := .tup ((gs.map (·.2)).map V.int)) n1)
      have s08 := s0.trans s18
      have D8 := D6.same s08
      refine ⟨.ref st, rfl, st, g, _, rfl, D8, by omega, fun H9 vo dO D9 X9 hO fO => ⟨(show (3 : Nat) ≤ sizeLine by decide), fun Vs nVs => ?_⟩⟩
      have sVs := sameNew (o := .lst [.ref p0, .ref p1, vo]) nVs
      obtain ⟨oV1, oV2⟩ := D9.off nVs
      have tk9 : TupK _ (upd H9 Vs (.lst [.ref p0, .ref p1, vo])) := (D8.tup X9).trans (.of sVs)
      have hN0 : ITn K (upd H9 Vs (.lst [.ref p0, .ref p1, vo])) p0 := ITn.tk ⟨zeros gs.length, sqS s18 hp0, by simp [zeros]; omega, by simp [zeros]; omega, fun x hx => by rw [List.eq_of_mem_replicate hx]; decide⟩ tk9
      have hN1 : ITn K (upd H9 Vs (.lst [.ref p0, .ref p1, vo])) p1 := by
        refine ITn.tk ⟨gs.map (·.2), SqT.of upd_same, by rw [List.length_map]; omega, by rw [List.length_map]; omega, fun x hx => ?_⟩ tk9
        obtain ⟨g', hg', rfl⟩ := List.mem_map.mp hx
        have h1 := bgs g' hg'
        have h2 := (ok.gp g' hg').2.2.1
        omega
      have vs0 : VS K st g (upd H9 Vs (.lst [.ref p0, .ref p1, vo])) i cs gs (t6 + 1) Vs [.ref p0, .ref p1, vo] := by
        refine ⟨D9.new nVs, (((TupK.of s08).trans tk9)).dp _ _ (to_dInst _ _) hI, upd_same, oV1, oV2, fun v hv => ?_⟩
        simp only [List.mem_cons, List.not_mem_nil, or_false] at hv
        rcases hv with rfl | rfl | rfl
        · exact hN0.vf
        · exact hN1.vf
        · exact VF.l ⟨dO, hO.weak (fun a h => x2_dom D8 h), fO.mono (by decide) (by decide) (by decide)⟩ (.of sVs)
      have ix0 : ∀ (k : Nat) (w : V), k = 0 ∨ k = 1 ∨ k = 3 → [V.ref p0, .ref p1, vo][k]? = some w → ∃ p, w = .ref p ∧ ITn K (upd H9 Vs (.lst [.ref p0, .ref p1, vo])) p := by
        intro k w hk hw
        rcases hk with rfl | rfl | rfl
        · simp at hw; exact ⟨p0, hw.symm, hN0⟩
        · simp at hw; exact ⟨p1, hw.symm, hN1⟩
        · simp at hw
      generalize hl3 : [V.ref p0, .ref p1, vo] = vs3 at *
      have l3 : vs3.length = 3 := by rw [← hl3]; rfl
      generalize upd H9 Vs (.lst vs3) = H10 at vs0 ix0
      -- the vectors
      dsimp only [gName]
      refine seq_with (t := tIfS _ _ _) (fun σ1 Hn => ∃ (Vn : Addr) (vs : List V), σ1 = [some (.ref a), some (.ref st), some (.int (0 + (j : Nat))), some (.int top), some (.ref i), some (.ref Vn), y6, y7, y8, none, none] ∧ VS K st g Hn i cs gs (t6 + 1) Vn vs ∧ 3 ≤ vs.length ∧ vs.length ≤ 9 ∧ (∀ (k : Nat) (w : V), k = 0 ∨ k = 1 ∨ k = 3 → vs[k]? = some w → ∃ p, w = .ref p ∧ ITn K Hn p)) ?rest (fun rest => ?main)
      case main =>
        refine ⟨.int top, rfl, _, _, rfl, rfl, _, rfl, ite2 (fun h1 => ?_) (fun h1 => ?_)⟩
        · have h1 : top < 4 := by simpa using h1
          refine ⟨.ref Vs, rfl, .ref i, rfl, i, cs, gs, rfl, vs0.i, ok, by omega, fun g' hg' => by have := bgs g' hg'; omega, fun H11 Va va vss s11 eA hA bA lA => ?_⟩
          refine ⟨_, rfl, Va, _, rfl, SqL.of eA, fun Vb nVb => ?_⟩
          have hcut : cutV va none (some (6 : Int)) = va.take 6 := cut_to va 6
          rw [hcut]
          have sVb := sameNew (o := .lst (va.take 6)) nVb
          have s11b := s11.trans sVb
          refine ⟨Vs, Vb, _, _, rfl, rfl, s11b _ _ vs0.e, upd_same, (by rw [l3, List.length_take]; exact small6 (by omega)), fun Vn nVn => ?_⟩
          have sVn := s11b.trans (sameNew (o := .lst (vs3 ++ va.take 6)) nVn)
          have hTu : ∀ w ∈ va, ∃ p, w = .ref p ∧ ITn K (upd (upd H11 Vb (.lst (va.take 6))) Vn (.lst (vs3 ++ va.take 6))) p := by
            intro w hw
            obtain ⟨m, hm, rfl⟩ := List.mem_iff_getElem.mp hw
            obtain ⟨ys, hys, Tn, e, hTn⟩ := hA.at (List.getElem?_eq_getElem hm)
            have hb := bA ys (List.mem_of_getElem? hys)
            exact ⟨Tn, e, ITn.tk ⟨ys, hTn, by omega, by omega, fun x hx => by have := hb.2 x hx; omega⟩ (.of (sVb.trans (sameNew nVn)))⟩
          refine rest _ _ ⟨Vn, vs3 ++ va.take 6, rfl, ⟨vs0.d.same sVn, (TupK.of sVn).dp _ _ (to_dInst _ _) vs0.i, upd_same, (vs0.d.same s11b).off nVn |>.1, (vs0.d.same s11b).off nVn |>.2, fun v hv => ?_⟩, by rw [List.length_append]; omega, by rw [List.length_append, List.length_take]; omega, ?_⟩
          · rcases List.mem_append.mp hv with h | h
            · exact (vs0.vf v h).l (.of sVn)
            · obtain ⟨p, rfl, hp⟩ := hTu v (List.mem_of_mem_take h)
              exact hp.vf
          · intro k w hk hw
            by_cases hkl : k < vs3.length
            · rw [List.getElem?_append_left hkl] at hw
              obtain ⟨p, e, hp⟩ := ix0 k w hk hw
              exact ⟨p, e, hp.tk (.of sVn)⟩
            · rw [List.getElem?_append_right (by omega)] at hw
              exact hTu w (List.mem_of_mem_take (List.mem_of_getElem? hw))
        · exact rest _ _ ⟨Vs, vs3, rfl, vs0, by omega, by omega, ix0⟩
      case rest =>
      rintro σ1 H11 ⟨Vn, vs, rfl, V11, hv3, hv9, ix⟩
      -- two values near them
      refine ⟨.ref Vn, rfl, .ref st, rfl, .ref Vn, rfl, .ref st, rfl, st, g, _, 2, rfl, V11.d, by omega, by decide, by decide, fun H12 kk h120 h121 D12 X12 => ?_⟩
      obtain ⟨kn, rfl⟩ : ∃ kn : Nat, kk = kn := ⟨kk.toNat, by omega⟩
      have V12 := V11.ext X12 D12
      obtain ⟨w0, hw0⟩ : ∃ w, vs[kn]? = some w := ⟨_, List.getElem?_eq_getElem (by omega)⟩
      obtain ⟨pa, rfl, hpa⟩ := ix kn w0 (by omega) hw0
      obtain ⟨xa, ea, la1, la2, ma⟩ := hpa.tk (V11.d.tup X12)
      refine ⟨Vn, _, _, _, rfl, rfl, SqL.of V12.e, atI_nat hw0, st, g, _, pa, xa, rfl, D12, by omega, ea, la1, la2, ma, fun H13 v1 d1 t13 D13 ht13 X13 hd1 f1 => ?_⟩
      have V13 := V12.ext X13 D13
      obtain ⟨w1, hw1⟩ : ∃ w, vs[0]? = some w := ⟨_, List.getElem?_eq_getElem (by omega)⟩
      obtain ⟨pb, rfl, hpb⟩ := ix 0 w1 (.inl rfl) hw1
      obtain ⟨xb, eb, lb1, lb2, mb⟩ := hpb.tk ((V11.d.tup X12).trans (D12.tup X13))
      refine ⟨.ref st, rfl, .ref Vn, rfl, Vn, _, 0, _, rfl, rfl, SqL.of V13.e, atI_nat (j := 0) hw1, st, g, _, pb, xb, rfl, D13, by omega, eb, lb1, lb2, mb, fun H14 v2 d2 t14 D14 ht14 X14 hd2 f2 => ⟨(show (2 : Nat) ≤ sizeLine by decide), fun La nLa => ?_⟩⟩
      have V14 := V13.ext X14 D14
      have sLa := sameNew (o := .lst [v1, v2]) nLa
      refine ⟨Vn, La, _, _, rfl, rfl, sLa _ _ V14.e, upd_same, small6 (by simp; omega), fun Lb nLb => ?_⟩
      have sLb := sLa.trans (sameNew (o := .lst (vs ++ [v1, v2])) nLb)
      have xx : ∀ {Hx : Hp} {tx : Nat}, DV Hx st g tx → ∀ a, X2 st g a → dom Hx a := fun dx a h => x2_dom dx h
      have hv1 : VF K (X2 st g) H14 v1 := VF.l ⟨d1, hd1.weak (xx D12), f1⟩ (.ext D13 X14 (.inl rfl) (.inr rfl))
      have hv2 : VF K (X2 st g) H14 v2 := ⟨d2, hd2.weak (xx D13), f2⟩
      have V15 : VS K st g (upd (upd H14 La (.lst [v1, v2])) Lb (.lst (vs ++ [v1, v2]))) i cs gs t14 Lb (vs ++ [v1, v2]) := by
        refine ⟨D14.same sLb, (TupK.of sLb).dp _ _ (to_dInst _ _) V14.i, upd_same, ((D14.same sLa).off nLb).1, ((D14.same sLa).off nLb).2, fun v hv => ?_⟩
        rcases List.mem_append.mp hv with h | h
        · exact (V14.vf v h).l (.of sLb)
        · simp only [List.mem_cons, List.not_mem_nil, or_false] at h
          rcases h with rfl | rfl
          · exact hv1.l (.of sLb)
          · exact hv2.l (.of sLb)
      have ix3 : 6 < (vs ++ [v1, v2]).length → ∃ p, (vs ++ [v1, v2])[3]? = some (.ref p) ∧ ITn K (upd (upd H14 La (.lst [v1, v2])) Lb (.lst (vs ++ [v1, v2]))) p := by
        intro h
        have h : 3 < vs.length := by simp at h; omega
        obtain ⟨p, e, hp⟩ := ix 3 vs[3] (.inr (.inr rfl)) (List.getElem?_eq_getElem h)
        exact ⟨p, by rw [List.getElem?_append_left h, List.getElem?_eq_getElem h, e], hp.tk ((((V11.d.tup X12).trans (D12.tup X13)).trans (D13.tup X14)).trans (.of sLb))⟩
      have l15 : (vs ++ [v1, v2]).length ≤ 11 := by simp; omega
      generalize vs ++ [v1, v2] = vs' at V15 ix3 l15
      generalize upd (upd H14 La (.lst [v1, v2])) Lb (.lst vs') = H15 at V15 ix3
      -- eight more
      dsimp only [gName]
      refine seq_with (t := tIfS _ _ _) (fun σ1 Hn => ∃ (Vn : Addr) (vs : List V) (t15 : Nat), σ1 = [some (.ref a), some (.ref st), some (.int (0 + (j : Nat))), some (.int top), some (.ref i), some (.ref Vn), y6, y7, y8, none, none] ∧ VS K st g Hn i cs gs t15 Vn vs ∧ t15 ≤ t14 + 300 ∧ vs.length ≤ 20) ?rest2 (fun rest => ?main2)
      case main2 =>
        refine ⟨.ref Lb, rfl, Lb, _, rfl, .inl (SqL.of V15.e), _, _, rfl, rfl, _, rfl, ite2 (fun h1 => ?_) (fun h1 => ?_)⟩
        · have h1 : 6 < vs'.length := by simp at h1; omega
          obtain ⟨pc, hw3, hpc⟩ := ix3 h1
          refine ⟨.ref Lb, rfl, 8, rfl, by omega, by omega, fun Dd nDd => lc_it (walk_range (lo := 0) (n := (8 : Int).toNat))
            (fun k Hx => ∃ (tx : Nat) (ws : List V), DV Hx st g tx ∧ tx ≤ t14 + 30 * k ∧ Ext st g H15 Hx ∧ Hx Dd = some (.lst ws) ∧ ws.length = k ∧ (∀ w ∈ ws, VF K (Xd3 st g Dd) Hx w))
            ⟨_, [], V15.d.new nDd, by omega, Ext.of (sameNew nDd), upd_same, rfl, fun _ h => (by cases h)⟩ (fun _ _ _ _ => trivial) ?_ ?_⟩
          · rintro k v Hx Hy hk ⟨tx, ws, Dx, htx, Xx, ex, lw, hw⟩ ⟨rfl, rfl⟩
            have hk : k < 8 := hk
            obtain ⟨oD1, oD2⟩ := V15.d.off nDd
            have Vx := V15.ext Xx Dx
            obtain ⟨xc, ec, lc1, lc2, mc⟩ := hpc.tk (V15.d.tup Xx)
            refine ⟨rfl, .ref st, rfl, .ref Lb, rfl, Lb, _, 3, _, rfl, rfl, SqL.of Vx.e, atI_nat (j := 3) hw3, st, g, _, pc, xc, rfl, Dx, by omega, ec, lc1, lc2, mc, fun Hz vz dz tz Dz htz Xz hdz fz => ?_⟩
            have ez := Xz _ _ ex oD1 oD2
            have x3 : ∀ a, Xd3 st g Dd a → dom Hy a := fun a h => by
              rcases h with h | h | h
              · rw [h]; exact Dx.occ.1
              · rw [h]; exact Dx.occ.2
              · rw [h]; unfold dom; rw [ex]; simp
            refine ⟨ws, ez, small (by omega), tz, ws ++ [vz], Dz.put oD1 oD2, by omega, fun c o h n1 n2 => by rw [upd_ne (ne_of_none h nDd)]; exact (Xx.trans Xz) c o h n1 n2, upd_same, by simp [lw], fun w hw' => ?_⟩
            rcases List.mem_append.mp hw' with h | h
            · exact ((hw w h).l (.ext Dx Xz (.inl rfl) (.inr (.inl rfl)))).l (.put ez (.inr (.inr rfl)))
            · simp at h; subst h
              exact VF.l ⟨dz, hdz.weak x3, fz⟩ (.put ez (.inr (.inr rfl)))
          rintro Hx ⟨tx, ws, Dx, htx, Xx, ex, lw, hw⟩
          have e8 : (8 : Int).toNat = 8 := rfl
          rw [e8] at htx lw
          have Vx := V15.ext Xx Dx
          refine ⟨Lb, Dd, _, _, rfl, rfl, Vx.e, ex, small6 (by omega), fun Lc nLc => ?_⟩
          have sLc := sameNew (o := .lst (vs' ++ ws)) nLc
          refine rest _ _ ⟨Lc, vs' ++ ws, tx, rfl, ⟨Dx.same sLc, (TupK.of sLc).dp _ _ (to_dInst _ _) Vx.i, upd_same, (Dx.off nLc).1, (Dx.off nLc).2, fun v hv => ?_⟩, by omega, by rw [List.length_append]; omega⟩
          rcases List.mem_append.mp hv with h | h
          · exact (Vx.vf v h).l (.of sLc)
          · obtain ⟨d, h1, h2⟩ := hw v h
            exact VF.l ⟨d, h1.weak (fun a h => h.elim .inl fun h => .inr (.inl h)), h2⟩ (.of sLc)
        · exact rest _ _ ⟨Lb, vs', t14, rfl, V15, by omega, by omega⟩
      case rest2 =>
      rintro σ1 H16 ⟨Vm, ws, t15, rfl, V16, ht15, lws⟩
      have fI : Fit (10 ^ 29) 5 20000 (dInst cs gs) := by
        refine fit_dInst ⟨by have := ok.c6; omega, fun x hx => ?_⟩ (by omega) (fun g' hg' => ⟨(by have := (ok.gp g' hg').1; have := ok.c6; omega), fun x hx => ?_, ?_⟩)
        · have h1 := ok.cb x hx; omega
        · have h1 := (ok.gp g' hg').2.1 x hx; have := ok.c6; omega
        · have h1 := (ok.gp g' hg').2.2; omega
      refine ⟨.ref Vm, rfl, Vm, rfl, ⟨_, SqL.of V16.e⟩, for_it (walk_list (K := K) (a := Vm) (xs := ws))
        (fun k σ H9 => ∃ (w6 w7 w8 : Option V), σ = [some (.ref a), some (.ref st), some (.int (0 + (j : Nat))), some (.int top), some (.ref i), some (.ref Vm), w6, w7, w8, none, none] ∧ Same H16 H9)
        ⟨_, _, _, rfl, Same.refl _⟩ (fun k σ H9 _ h => by obtain ⟨_, _, _, _, s9⟩ := h; exact SqL.of (s9 _ _ V16.e)) ?_ ?_⟩
      · rintro k v σ H17 H17' hk ⟨w6, w7, w8, rfl, s17⟩ ⟨rfl, hv⟩
        have hv : ws[k]? = some v := hv
        obtain ⟨d, hd, fd⟩ := V16.vf v (List.mem_of_getElem? hv)
        have hdq : ∀ {Hx : Hp}, Same H16 Hx → Dq K st g Hx v d := fun s => (hd.lx (.of s)).dq (.inl rfl) (.inr rfl)
        have hIx : ∀ {Hx : Hp}, Same H16 Hx → Dp K Hx (.ref i) (dInst cs gs) := fun s => (TupK.of s).dp _ _ (to_dInst _ _) V16.i
        have shP := fit_pair (M := 10 ^ 29) (by decide) (fI.mono (Nat.le_refl _) (by decide) (by decide)) (fd.mono (Nat.le_refl _) (by decide) (by decide)) (show 5 ≤ 50 by decide) (show 20000 ≤ 1000000 by decide)
        refine ⟨.ref i, rfl, v, rfl, (show (2 : Nat) ≤ sizeLine by decide), fun L1 n1 m1 => ?_⟩
        have sL1 := s17.trans (sameNew (o := .lst [.ref i, v]) n1)
        have of1 := (V16.d.same s17).off n1
        refine ⟨_, _, st, g, rfl, .lst upd_same of1.1 of1.2 m1 (.cons (Dq.of_dp (to_dInst _ _) (hIx sL1)) (.cons (hdq sL1) .nil)), shP.1, shP.2.1, shP.2.2, ?_⟩
        generalize upd H17' L1 (.lst [.ref i, v]) = H18 at sL1
        refine ⟨.ref i, rfl, v, rfl, st, g, i, v, cs, gs, d, rfl, hIx sL1, ok, hdq sL1, fun H19 s19 => ?_⟩
        have s019 := sL1.trans s19
        refine ⟨.ref i, rfl, v, rfl, st, g, i, v, cs, gs, d, rfl, hIx s019, ok, hdq s019, fun H20 s20 => ?_⟩
        have s020 := s019.trans s20
        refine ⟨.ref i, rfl, v, rfl, st, g, i, v, cs, gs, d, rfl, hIx s020, ok, hdq s020, fun H21 s21 => ?_⟩
        have s021 := s020.trans s21
        generalize isVecD cs gs d = bb
        refine ⟨(show (2 : Nat) ≤ sizeLine by decide), fun A1 nA1 => ⟨.bl bb, rfl, .bl bb, rfl, (show (2 : Nat) ≤ sizeLine by decide), fun A2 nA2 => ?_⟩⟩
        have sA1 := sameNew (o := .lst [.bl bb, .bl bb]) nA1
        have sA2 := sameNew (o := .lst [.bl bb, .bl bb]) nA2
        refine ⟨_, _, .list [.bool bb, .bool bb], rfl, .lst (SqL.of (sA2 _ _ upd_same)) (.cons (.bl _) (.cons (.bl _) .nil)), .lst (SqL.of upd_same) (.cons (.bl _) (.cons (.bl _) .nil)), by simp [plain, plainAll], by simp [PyData.depth, PyData.depthAll], fun H22 s22 => ⟨_, rfl, iteF ?_⟩⟩
        have s022 := ((s021.trans sA1).trans sA2).trans s22
        refine ⟨.ref i, rfl, v, rfl, (show (2 : Nat) ≤ sizeLine by decide), fun L2 n2 m2 => ?_⟩
        have sL2 := s022.trans (sameNew (o := .lst [.ref i, v]) n2)
        have of2 := (V16.d.same s022).off n2
        refine ⟨_, _, st, g, rfl, .lst upd_same of2.1 of2.2 m2 (.cons (Dq.of_dp (to_dInst _ _) (hIx sL2)) (.cons (hdq sL2) .nil)), shP.1, shP.2.1, shP.2.2, _, rfl, rfl, _, rfl, iteFF (by simp) ?_⟩
        exact ⟨_, _, _, rfl, sL2⟩
      · rintro σ H17 ⟨w6, w7, w8, rfl, s17⟩
        exact ⟨t15, _, _, _, _, _, _, _, rfl, V16.d.same s17, by omega⟩
    rintro σ H2 ⟨t, y2, y3, y4, y5, y6, y7, y8, rfl, D2, ht⟩
    exact q _
end
end Pv

namespace Pv
open PySem PySem.Spec PyProof.Rows L2
/-! what the top has left -/
theorem all_mk {l : PySem.W.OpenLaw} {w : World} {K : PySem.W.Frag} {h : Heap} {mg : Str → Option Value} {fa fWh fWi fTo fOp fDm fEx fFr fCl fCr fRe fGr fIv fMn fSt fDr fSm fAm fIn fLd fLr fLw fLo fLv fLa fOd fNr fLaw : Addr} (X : K.In h) (G : h.Ns mainGlobals mg) (hfa : mg "law" = some (.ref fa))
    {odWh anWh odWi anWi odTo anTo odOp anOp odDm anDm odEx anEx odFr anFr odCl anCl odCr anCr odRe anRe odGr anGr odIv anIv odMn anMn odSt anSt odDr anDr odSm anSm odAm anAm odIn anIn odLd anLd odLr anLr odLw anLw odLo anLo odLv anLv odLa anLa odOd anOd odNr anNr odLaw anLaw : Option Addr} {slWh slWi slTo slOp slDm slEx slFr slCl slCr slRe slGr slIv slMn slSt slDr slSm slAm slIn slLd slLr slLw slLo slLv slLa slOd slNr slLaw : Array (Option Value)}
    {ocWh kVWh dcWh pmWh cdWh ctWh ocWi kVWi dcWi pmWi cdWi ctWi ocTo kVTo dcTo pmTo cdTo ctTo ocOp kVOp dcOp pmOp cdOp ctOp ocDm kVDm dcDm pmDm cdDm ctDm ocEx kVEx dcEx pmEx cdEx ctEx ocFr kVFr dcFr pmFr cdFr ctFr ocCl kVCl dcCl pmCl cdCl ctCl ocCr kVCr dcCr pmCr cdCr ctCr ocRe kVRe dcRe pmRe cdRe ctRe ocGr kVGr dcGr pmGr cdGr ctGr ocIv kVIv dcIv pmIv cdIv ctIv ocMn kVMn dcMn pmMn cdMn ctMn ocSt kVSt dcSt pmSt cdSt ctSt ocDr kVDr dcDr pmDr cdDr ctDr ocSm kVSm dcSm pmSm cdSm ctSm ocAm kVAm dcAm pmAm cdAm ctAm ocIn kVIn dcIn pmIn cdIn ctIn ocLd kVLd dcLd pmLd cdLd ctLd ocLr kVLr dcLr pmLr cdLr ctLr ocLw kVLw dcLw pmLw cdLw ctLw ocLo kVLo dcLo pmLo cdLo ctLo ocLv kVLv dcLv pmLv cdLv ctLv ocLa kVLa dcLa pmLa cdLa ctLa ocOd kVOd dcOd pmOd cdOd ctOd ocNr kVNr dcNr pmNr cdNr ctNr ocLaw kVLaw dcLaw pmLaw cdLaw ctLaw : Value}
    (aWh : PySem.W.nsIn K mainGlobals "is_whole" = some (some (.ref fWh))) (lWh : K.lookup fWh = some ⟨ocWh, odWh, .func (PySem.W.fnOf "is_whole" "is_whole" (defArgs sWhole) (defBody sWhole) (defScope sWhole) .none kVWh dcWh pmWh anWh cdWh ctWh), slWh⟩)
      (cWh : PySem.W.codeIn K cdWh "is_whole" = true) (kWh : PySem.W.keepIn K (.ref fWh) = true)
    (aWi : PySem.W.nsIn K mainGlobals "is_within" = some (some (.ref fWi))) (lWi : K.lookup fWi = some ⟨ocWi, odWi, .func (PySem.W.fnOf "is_within" "is_within" (defArgs sWithin) (defBody sWithin) (defScope sWithin) .none kVWi dcWi pmWi anWi cdWi ctWi), slWi⟩)
      (cWi : PySem.W.codeIn K cdWi "is_within" = true) (kWi : PySem.W.keepIn K (.ref fWi) = true)
    (aTo : PySem.W.nsIn K mainGlobals "is_tuple_of" = some (some (.ref fTo))) (lTo : K.lookup fTo = some ⟨ocTo, odTo, .func (PySem.W.fnOf "is_tuple_of" "is_tuple_of" (defArgs sTupOf) (defBody sTupOf) (defScope sTupOf) .none kVTo dcTo pmTo anTo cdTo ctTo), slTo⟩)
      (cTo : PySem.W.codeIn K cdTo "is_tuple_of" = true) (kTo : PySem.W.keepIn K (.ref fTo) = true)
    (aOp : PySem.W.nsIn K mainGlobals "option_post" = some (some (.ref fOp))) (lOp : K.lookup fOp = some ⟨ocOp, odOp, .func (PySem.W.fnOf "option_post" "option_post" (defArgs sOpt) (defBody sOpt) (defScope sOpt) .none kVOp dcOp pmOp anOp cdOp ctOp), slOp⟩)
      (cOp : PySem.W.codeIn K cdOp "option_post" = true) (kOp : PySem.W.keepIn K (.ref fOp) = true)
    (aDm : PySem.W.nsIn K mainGlobals "demands" = some (some (.ref fDm))) (lDm : K.lookup fDm = some ⟨ocDm, odDm, .func (PySem.W.fnOf "demands" "demands" (defArgs sDem) (defBody sDem) (defScope sDem) .none kVDm dcDm pmDm anDm cdDm ctDm), slDm⟩)
      (cDm : PySem.W.codeIn K cdDm "demands" = true) (kDm : PySem.W.keepIn K (.ref fDm) = true)
    (aEx : PySem.W.nsIn K mainGlobals "excesses" = some (some (.ref fEx))) (lEx : K.lookup fEx = some ⟨ocEx, odEx, .func (PySem.W.fnOf "excesses" "excesses" (defArgs sExc) (defBody sExc) (defScope sExc) .none kVEx dcEx pmEx anEx cdEx ctEx), slEx⟩)
      (cEx : PySem.W.codeIn K cdEx "excesses" = true) (kEx : PySem.W.keepIn K (.ref fEx) = true)
    (aFr : PySem.W.nsIn K mainGlobals "free_places" = some (some (.ref fFr))) (lFr : K.lookup fFr = some ⟨ocFr, odFr, .func (PySem.W.fnOf "free_places" "free_places" (defArgs sFre) (defBody sFre) (defScope sFre) .none kVFr dcFr pmFr anFr cdFr ctFr), slFr⟩)
      (cFr : PySem.W.codeIn K cdFr "free_places" = true) (kFr : PySem.W.keepIn K (.ref fFr) = true)
    (aCl : PySem.W.nsIn K mainGlobals "claimed_posts" = some (some (.ref fCl))) (lCl : K.lookup fCl = some ⟨ocCl, odCl, .func (PySem.W.fnOf "claimed_posts" "claimed_posts" (defArgs sCla) (defBody sCla) (defScope sCla) .none kVCl dcCl pmCl anCl cdCl ctCl), slCl⟩)
      (cCl : PySem.W.codeIn K cdCl "claimed_posts" = true) (kCl : PySem.W.keepIn K (.ref fCl) = true)
    (aCr : PySem.W.nsIn K mainGlobals "crowded_posts" = some (some (.ref fCr))) (lCr : K.lookup fCr = some ⟨ocCr, odCr, .func (PySem.W.fnOf "crowded_posts" "crowded_posts" (defArgs sCro) (defBody sCro) (defScope sCro) .none kVCr dcCr pmCr anCr cdCr ctCr), slCr⟩)
      (cCr : PySem.W.codeIn K cdCr "crowded_posts" = true) (kCr : PySem.W.keepIn K (.ref fCr) = true)
    (aRe : PySem.W.nsIn K mainGlobals "reserve_option" = some (some (.ref fRe))) (lRe : K.lookup fRe = some ⟨ocRe, odRe, .func (PySem.W.fnOf "reserve_option" "reserve_option" (defArgs sRes) (defBody sRes) (defScope sRes) .none kVRe dcRe pmRe anRe cdRe ctRe), slRe⟩)
      (cRe : PySem.W.codeIn K cdRe "reserve_option" = true) (kRe : PySem.W.keepIn K (.ref fRe) = true)
    (aGr : PySem.W.nsIn K mainGlobals "group_routes" = some (some (.ref fGr))) (lGr : K.lookup fGr = some ⟨ocGr, odGr, .func (PySem.W.fnOf "group_routes" "group_routes" (defArgs sGr) (defBody sGr) (defScope sGr) .none kVGr dcGr pmGr anGr cdGr ctGr), slGr⟩)
      (cGr : PySem.W.codeIn K cdGr "group_routes" = true) (kGr : PySem.W.keepIn K (.ref fGr) = true)
    (aIv : PySem.W.nsIn K mainGlobals "is_vector" = some (some (.ref fIv))) (lIv : K.lookup fIv = some ⟨ocIv, odIv, .func (PySem.W.fnOf "is_vector" "is_vector" (defArgs sIv) (defBody sIv) (defScope sIv) .none kVIv dcIv pmIv anIv cdIv ctIv), slIv⟩)
      (cIv : PySem.W.codeIn K cdIv "is_vector" = true) (kIv : PySem.W.keepIn K (.ref fIv) = true)
    (aMn : PySem.W.nsIn K mainGlobals "meets_needs" = some (some (.ref fMn))) (lMn : K.lookup fMn = some ⟨ocMn, odMn, .func (PySem.W.fnOf "meets_needs" "meets_needs" (defArgs sMn) (defBody sMn) (defScope sMn) .none kVMn dcMn pmMn anMn cdMn ctMn), slMn⟩)
      (cMn : PySem.W.codeIn K cdMn "meets_needs" = true) (kMn : PySem.W.keepIn K (.ref fMn) = true)
    (aSt : PySem.W.nsIn K mainGlobals "_law_begin" = some (some (.ref fSt))) (lSt : K.lookup fSt = some ⟨ocSt, odSt, .func (PySem.W.fnOf "_law_begin" "_law_begin" (defArgs sSt) (defBody sSt) (defScope sSt) .none kVSt dcSt pmSt anSt cdSt ctSt), slSt⟩)
      (cSt : PySem.W.codeIn K cdSt "_law_begin" = true) (kSt : PySem.W.keepIn K (.ref fSt) = true)
    (aDr : PySem.W.nsIn K mainGlobals "_law_next" = some (some (.ref fDr))) (lDr : K.lookup fDr = some ⟨ocDr, odDr, .func (PySem.W.fnOf "_law_next" "_law_next" (defArgs sDr) (defBody sDr) (defScope sDr) .none kVDr dcDr pmDr anDr cdDr ctDr), slDr⟩)
      (cDr : PySem.W.codeIn K cdDr "_law_next" = true) (kDr : PySem.W.keepIn K (.ref fDr) = true)
    (aSm : PySem.W.nsIn K mainGlobals "_law_same" = some (some (.ref fSm))) (lSm : K.lookup fSm = some ⟨ocSm, odSm, .func (PySem.W.fnOf "_law_same" "_law_same" (defArgs sSame) (defBody sSame) (defScope sSame) .none kVSm dcSm pmSm anSm cdSm ctSm), slSm⟩)
      (cSm : PySem.W.codeIn K cdSm "_law_same" = true) (kSm : PySem.W.keepIn K (.ref fSm) = true)
    (aAm : PySem.W.nsIn K mainGlobals "_law_amount" = some (some (.ref fAm))) (lAm : K.lookup fAm = some ⟨ocAm, odAm, .func (PySem.W.fnOf "_law_amount" "_law_amount" (defArgs sAm) (defBody sAm) (defScope sAm) .none kVAm dcAm pmAm anAm cdAm ctAm), slAm⟩)
      (cAm : PySem.W.codeIn K cdAm "_law_amount" = true) (kAm : PySem.W.keepIn K (.ref fAm) = true)
    (aIn : PySem.W.nsIn K mainGlobals "_law_instance" = some (some (.ref fIn))) (lIn : K.lookup fIn = some ⟨ocIn, odIn, .func (PySem.W.fnOf "_law_instance" "_law_instance" (defArgs sIn) (defBody sIn) (defScope sIn) .none kVIn dcIn pmIn anIn cdIn ctIn), slIn⟩)
      (cIn : PySem.W.codeIn K cdIn "_law_instance" = true) (kIn : PySem.W.keepIn K (.ref fIn) = true)
    (aLd : PySem.W.nsIn K mainGlobals "_law_demand" = some (some (.ref fLd))) (lLd : K.lookup fLd = some ⟨ocLd, odLd, .func (PySem.W.fnOf "_law_demand" "_law_demand" (defArgs sLd) (defBody sLd) (defScope sLd) .none kVLd dcLd pmLd anLd cdLd ctLd), slLd⟩)
      (cLd : PySem.W.codeIn K cdLd "_law_demand" = true) (kLd : PySem.W.keepIn K (.ref fLd) = true)
    (aLr : PySem.W.nsIn K mainGlobals "_law_reserve" = some (some (.ref fLr))) (lLr : K.lookup fLr = some ⟨ocLr, odLr, .func (PySem.W.fnOf "_law_reserve" "_law_reserve" (defArgs sLr) (defBody sLr) (defScope sLr) .none kVLr dcLr pmLr anLr cdLr ctLr), slLr⟩)
      (cLr : PySem.W.codeIn K cdLr "_law_reserve" = true) (kLr : PySem.W.keepIn K (.ref fLr) = true)
    (aLw : PySem.W.nsIn K mainGlobals "_law_rows" = some (some (.ref fLw))) (lLw : K.lookup fLw = some ⟨ocLw, odLw, .func (PySem.W.fnOf "_law_rows" "_law_rows" (defArgs sLw) (defBody sLw) (defScope sLw) .none kVLw dcLw pmLw anLw cdLw ctLw), slLw⟩)
      (cLw : PySem.W.codeIn K cdLw "_law_rows" = true) (kLw : PySem.W.keepIn K (.ref fLw) = true)
    (aLo : PySem.W.nsIn K mainGlobals "_law_room" = some (some (.ref fLo))) (lLo : K.lookup fLo = some ⟨ocLo, odLo, .func (PySem.W.fnOf "_law_room" "_law_room" (defArgs sLo) (defBody sLo) (defScope sLo) .none kVLo dcLo pmLo anLo cdLo ctLo), slLo⟩)
      (cLo : PySem.W.codeIn K cdLo "_law_room" = true) (kLo : PySem.W.keepIn K (.ref fLo) = true)
    (aLv : PySem.W.nsIn K mainGlobals "_law_is_vector" = some (some (.ref fLv))) (lLv : K.lookup fLv = some ⟨ocLv, odLv, .func (PySem.W.fnOf "_law_is_vector" "_law_is_vector" (defArgs sLv) (defBody sLv) (defScope sLv) .none kVLv dcLv pmLv anLv cdLv ctLv), slLv⟩)
      (cLv : PySem.W.codeIn K cdLv "_law_is_vector" = true) (kLv : PySem.W.keepIn K (.ref fLv) = true)
    (aLa : PySem.W.nsIn K mainGlobals "_law_all_vectors" = some (some (.ref fLa))) (lLa : K.lookup fLa = some ⟨ocLa, odLa, .func (PySem.W.fnOf "_law_all_vectors" "_law_all_vectors" (defArgs sLa) (defBody sLa) (defScope sLa) .none kVLa dcLa pmLa anLa cdLa ctLa), slLa⟩)
      (cLa : PySem.W.codeIn K cdLa "_law_all_vectors" = true) (kLa : PySem.W.keepIn K (.ref fLa) = true)
    (aOd : PySem.W.nsIn K mainGlobals "_law_odd" = some (some (.ref fOd))) (lOd : K.lookup fOd = some ⟨ocOd, odOd, .func (PySem.W.fnOf "_law_odd" "_law_odd" (defArgs sOd) (defBody sOd) (defScope sOd) .none kVOd dcOd pmOd anOd cdOd ctOd), slOd⟩)
      (cOd : PySem.W.codeIn K cdOd "_law_odd" = true) (kOd : PySem.W.keepIn K (.ref fOd) = true)
    (aNr : PySem.W.nsIn K mainGlobals "_law_near" = some (some (.ref fNr))) (lNr : K.lookup fNr = some ⟨ocNr, odNr, .func (PySem.W.fnOf "_law_near" "_law_near" (defArgs sNr) (defBody sNr) (defScope sNr) .none kVNr dcNr pmNr anNr cdNr ctNr), slNr⟩)
      (cNr : PySem.W.codeIn K cdNr "_law_near" = true) (kNr : PySem.W.keepIn K (.ref fNr) = true)
    (aLaw : PySem.W.nsIn K mainGlobals "law" = some (some (.ref fLaw))) (lLaw : K.lookup fLaw = some ⟨ocLaw, odLaw, .func (PySem.W.fnOf "law" "law" (defArgs sLaw) (defBody sLaw) (defScope sLaw) .none kVLaw dcLaw pmLaw anLaw cdLaw ctLaw), slLaw⟩)
      (cLaw : PySem.W.codeIn K cdLaw "law" = true) (kLaw : PySem.W.keepIn K (.ref fLaw) = true)
    (z0 : PySem.W.nsIn K mainGlobals "isinstance" = some none)
    (z1 : PySem.W.nsIn K mainGlobals "int" = some none)
    (z2 : PySem.W.nsIn K mainGlobals "bool" = some none)
    (z3 : PySem.W.nsIn K mainGlobals "str" = some none)
    (z4 : PySem.W.nsIn K mainGlobals "tuple" = some none)
    (z5 : PySem.W.nsIn K mainGlobals "list" = some none)
    (z6 : PySem.W.nsIn K mainGlobals "len" = some none)
    (z7 : PySem.W.nsIn K mainGlobals "abs" = some none)
    (z8 : PySem.W.nsIn K mainGlobals "min" = some none)
    (z9 : PySem.W.nsIn K mainGlobals "max" = some none)
    (z10 : PySem.W.nsIn K mainGlobals "range" = some none)
    (z11 : PySem.W.nsIn K mainGlobals "repr" = some none)
    (z12 : PySem.W.nsIn K mainGlobals "zip" = some none)
    (z13 : PySem.W.nsIn K mainGlobals "all" = some none)
    (z14 : PySem.W.nsIn K mainGlobals "enumerate" = some none)
    : ∃ fd : FuncData, (∀ (s : Shared) (v : Value), BindsTo s fd ⟨[v], []⟩ [("_law_script", v)]) ∧ ∀ base : Heap, K.In base → base.Ns mainGlobals mg → FnG l.prog w K mg base 8 fa fd ["_law_script"] (spLaw K) := by
  have e := hfa.symm.trans (PySem.W.mg_of X G aLaw)
  cases e
  have FWh := fun_mk (st := sWhole) lWh cWh kWh
  have bWh := FWh.binds (ps := ["value"]) fun _ _ _ _ _ _ us hl => match us, hl with | [_], _ => rfl
  have gWh := PySem.W.mg_of X G aWh
  have FWi := fun_mk (st := sWithin) lWi cWi kWi
  have bWi := FWi.binds (ps := ["value", "least", "most"]) fun _ _ _ _ _ _ us hl => match us, hl with | [_, _, _], _ => rfl
  have gWi := PySem.W.mg_of X G aWi
  have FTo := fun_mk (st := sTupOf) lTo cTo kTo
  have bTo := FTo.binds (ps := ["value", "least", "most"]) fun _ _ _ _ _ _ us hl => match us, hl with | [_, _, _], _ => rfl
  have gTo := PySem.W.mg_of X G aTo
  have FOp := fun_mk (st := sOpt) lOp cOp kOp
  have bOp := FOp.binds (ps := ["instance", "group", "option"]) fun _ _ _ _ _ _ us hl => match us, hl with | [_, _, _], _ => rfl
  have gOp := PySem.W.mg_of X G aOp
  have FDm := fun_mk (st := sDem) lDm cDm kDm
  have bDm := FDm.binds (ps := ["instance"]) fun _ _ _ _ _ _ us hl => match us, hl with | [_], _ => rfl
  have gDm := PySem.W.mg_of X G aDm
  have FEx := fun_mk (st := sExc) lEx cEx kEx
  have bEx := FEx.binds (ps := ["instance"]) fun _ _ _ _ _ _ us hl => match us, hl with | [_], _ => rfl
  have gEx := PySem.W.mg_of X G aEx
  have FFr := fun_mk (st := sFre) lFr cFr kFr
  have bFr := FFr.binds (ps := ["instance"]) fun _ _ _ _ _ _ us hl => match us, hl with | [_], _ => rfl
  have gFr := PySem.W.mg_of X G aFr
  have FCl := fun_mk (st := sCla) lCl cCl kCl
  have bCl := FCl.binds (ps := ["instance"]) fun _ _ _ _ _ _ us hl => match us, hl with | [_], _ => rfl
  have gCl := PySem.W.mg_of X G aCl
  have FCr := fun_mk (st := sCro) lCr cCr kCr
  have bCr := FCr.binds (ps := ["instance"]) fun _ _ _ _ _ _ us hl => match us, hl with | [_], _ => rfl
  have gCr := PySem.W.mg_of X G aCr
  have FRe := fun_mk (st := sRes) lRe cRe kRe
  have bRe := FRe.binds (ps := ["instance", "group"]) fun _ _ _ _ _ _ us hl => match us, hl with | [_, _], _ => rfl
  have gRe := PySem.W.mg_of X G aRe
  have FGr := fun_mk (st := sGr) lGr cGr kGr
  have bGr := FGr.binds (ps := ["instance"]) fun _ _ _ _ _ _ us hl => match us, hl with | [_], _ => rfl
  have gGr := PySem.W.mg_of X G aGr
  have FIv := fun_mk (st := sIv) lIv cIv kIv
  have bIv := FIv.binds (ps := ["instance", "value"]) fun _ _ _ _ _ _ us hl => match us, hl with | [_, _], _ => rfl
  have gIv := PySem.W.mg_of X G aIv
  have FMn := fun_mk (st := sMn) lMn cMn kMn
  have bMn := FMn.binds (ps := ["instance", "numbers"]) fun _ _ _ _ _ _ us hl => match us, hl with | [_, _], _ => rfl
  have gMn := PySem.W.mg_of X G aMn
  have FSt := fun_mk (st := sSt) lSt cSt kSt
  have bSt := FSt.binds (ps := ["_law_script"]) fun _ _ _ _ _ _ us hl => match us, hl with | [_], _ => rfl
  have gSt := PySem.W.mg_of X G aSt
  have FDr := fun_mk (st := sDr) lDr cDr kDr
  have bDr := FDr.binds (ps := ["_law_deck", "_law_many"]) fun _ _ _ _ _ _ us hl => match us, hl with | [_, _], _ => rfl
  have gDr := PySem.W.mg_of X G aDr
  have FSm := fun_mk (st := sSame) lSm cSm kSm
  have bSm := FSm.binds (ps := ["_law_found", "_law_due"]) fun _ _ _ _ _ _ us hl => match us, hl with | [_, _], _ => rfl
  have gSm := PySem.W.mg_of X G aSm
  have FAm := fun_mk (st := sAm) lAm cAm kAm
  have bAm := FAm.binds (ps := ["_law_deck", "_law_top"]) fun _ _ _ _ _ _ us hl => match us, hl with | [_, _], _ => rfl
  have gAm := PySem.W.mg_of X G aAm
  have FIn := fun_mk (st := sIn) lIn cIn kIn
  have bIn := FIn.binds (ps := ["_law_deck", "_law_most_posts", "_law_most_groups", "_law_top"]) fun _ _ _ _ _ _ us hl => match us, hl with | [_, _, _, _], _ => rfl
  have gIn := PySem.W.mg_of X G aIn
  have FLd := fun_mk (st := sLd) lLd cLd kLd
  have bLd := FLd.binds (ps := ["_law_instance_here"]) fun _ _ _ _ _ _ us hl => match us, hl with | [_], _ => rfl
  have gLd := PySem.W.mg_of X G aLd
  have FLr := fun_mk (st := sLr) lLr cLr kLr
  have bLr := FLr.binds (ps := ["_law_instance_here", "_law_group"]) fun _ _ _ _ _ _ us hl => match us, hl with | [_, _], _ => rfl
  have gLr := PySem.W.mg_of X G aLr
  have FLw := fun_mk (st := sLw) lLw cLw kLw
  have bLw := FLw.binds (ps := ["_law_instance_here"]) fun _ _ _ _ _ _ us hl => match us, hl with | [_], _ => rfl
  have gLw := PySem.W.mg_of X G aLw
  have FLo := fun_mk (st := sLo) lLo cLo kLo
  have bLo := FLo.binds (ps := ["_law_instance_here"]) fun _ _ _ _ _ _ us hl => match us, hl with | [_], _ => rfl
  have gLo := PySem.W.mg_of X G aLo
  have FLv := fun_mk (st := sLv) lLv cLv kLv
  have bLv := FLv.binds (ps := ["_law_instance_here", "_law_value"]) fun _ _ _ _ _ _ us hl => match us, hl with | [_, _], _ => rfl
  have gLv := PySem.W.mg_of X G aLv
  have FLa := fun_mk (st := sLa) lLa cLa kLa
  have bLa := FLa.binds (ps := ["_law_instance_here"]) fun _ _ _ _ _ _ us hl => match us, hl with | [_], _ => rfl
  have gLa := PySem.W.mg_of X G aLa
  have FOd := fun_mk (st := sOd) lOd cOd kOd
  have bOd := FOd.binds (ps := ["_law_deck"]) fun _ _ _ _ _ _ us hl => match us, hl with | [_], _ => rfl
  have gOd := PySem.W.mg_of X G aOd
  have FNr := fun_mk (st := sNr) lNr cNr kNr
  have bNr := FNr.binds (ps := ["_law_deck", "_law_value"]) fun _ _ _ _ _ _ us hl => match us, hl with | [_, _], _ => rfl
  have gNr := PySem.W.mg_of X G aNr
  have FLaw := fun_mk (st := sLaw) lLaw cLaw kLaw
  have m_isinstance := PySem.W.mg_none_of X G z0
  have m_int := PySem.W.mg_none_of X G z1
  have m_bool := PySem.W.mg_none_of X G z2
  have m_str := PySem.W.mg_none_of X G z3
  have m_tuple := PySem.W.mg_none_of X G z4
  have m_list := PySem.W.mg_none_of X G z5
  have m_len := PySem.W.mg_none_of X G z6
  have m_abs := PySem.W.mg_none_of X G z7
  have m_min := PySem.W.mg_none_of X G z8
  have m_max := PySem.W.mg_none_of X G z9
  have m_range := PySem.W.mg_none_of X G z10
  have m_repr := PySem.W.mg_none_of X G z11
  have m_zip := PySem.W.mg_none_of X G z12
  have m_all := PySem.W.mg_none_of X G z13
  have m_enumerate := PySem.W.mg_none_of X G z14
  refine ⟨PySem.W.fnOf "law" "law" (defArgs sLaw) (defBody sLaw) (defScope sLaw) .none kVLaw dcLaw pmLaw anLaw cdLaw ctLaw, fun s v => .of_eq rfl, fun base _ _ => ?_⟩
  have GWh := ok_whole (P := l.prog) (w := w) (base := base) (mg := mg) (k := 0) FWh m_isinstance m_int m_bool
  have GWi := ok_within (P := l.prog) (w := w) (base := base) (mg := mg) (k := 0) FWi FWh bWh gWh GWh
  have GTo := ok_tupOf (P := l.prog) (w := w) (base := base) (mg := mg) (k := 0) FTo m_isinstance m_tuple m_len
  have GOp := ok_opt (P := l.prog) (w := w) (base := base) (mg := mg) (k := 0) FOp m_len
  have GDm := ok_dem (P := l.prog) (w := w) (base := base) (mg := mg) (k := 0) FDm m_len m_tuple
  have GEx := ok_exc (P := l.prog) (w := w) (base := base) (mg := mg) (k := 0) FEx FDm bDm gDm GDm m_tuple m_zip m_max
  have GFr := ok_fre (P := l.prog) (w := w) (base := base) (mg := mg) (k := 0) FFr FDm bDm gDm GDm m_tuple m_zip m_max
  have GCl := ok_cla (P := l.prog) (w := w) (base := base) (mg := mg) (k := 0) FCl FFr bFr gFr GFr m_tuple m_enumerate
  have GCr := ok_cro (P := l.prog) (w := w) (base := base) (mg := mg) (k := 0) FCr FEx bEx gEx GEx m_tuple m_enumerate
  have GRe := ok_res (P := l.prog) (w := w) (base := base) (mg := mg) (k := 0) FRe FCl bCl gCl GCl m_range m_len
  have GSm := ok_same (P := l.prog) (w := w) (base := base) (mg := mg) FSm bSm gSm m_tuple m_list m_isinstance m_len m_range m_str m_int m_bool 2
  have GGr := ok_Gr (P := l.prog) (w := w) (base := base) (mg := mg) FGr  FCr bCr gCr GCr FOp bOp gOp GOp FRe bRe gRe GRe   m_len m_range
  have GMn := ok_Mn (P := l.prog) (w := w) (base := base) (mg := mg) FMn  FGr bGr gGr GGr FEx bEx gEx GEx FFr bFr gFr GFr   m_len m_zip m_list m_all
  have GIv := ok_Iv (P := l.prog) (w := w) (base := base) (mg := mg) FIv  FTo bTo gTo GTo FWi bWi gWi GWi FMn bMn gMn GMn   m_len m_zip m_all
  have GSt := ok_St (P := l.prog) (w := w) (base := base) (mg := mg) FSt     m_abs m_len m_int
  have GDr := ok_Dr (P := l.prog) (w := w) (base := base) (mg := mg) FDr     
  have GAm := ok_Am (P := l.prog) (w := w) (base := base) (mg := mg) FAm  FDr bDr gDr GDr   m_min
  have GIn := ok_In (P := l.prog) (w := w) (base := base) (mg := mg) FIn  FDr bDr gDr GDr FAm bAm gAm GAm   m_range m_list m_len m_min m_tuple
  have GLd := ok_Ld (P := l.prog) (w := w) (base := base) (mg := mg) FLd     m_len
  have GLr := ok_Lr (P := l.prog) (w := w) (base := base) (mg := mg) FLr  FLd bLd gLd GLd   m_len m_range
  have GLw := ok_Lw (P := l.prog) (w := w) (base := base) (mg := mg) FLw  FLd bLd gLd GLd FLr bLr gLr GLr   m_enumerate
  have GLo := ok_Lo (P := l.prog) (w := w) (base := base) (mg := mg) FLo  FLd bLd gLd GLd   m_zip m_max
  have GLv := ok_Lv (P := l.prog) (w := w) (base := base) (mg := mg) FLv  FLo bLo gLo GLo FLw bLw gLw GLw   m_tuple m_isinstance m_len m_zip m_bool m_int m_range
  have GLa := ok_La (P := l.prog) (w := w) (base := base) (mg := mg) FLa  FLw bLw gLw GLw FLv bLv gLv GLv   m_enumerate m_int m_range
  have GOd := ok_Od (P := l.prog) (w := w) (base := base) (mg := mg) FOd  FDr bDr gDr GDr   
  have GNr := ok_Nr (P := l.prog) (w := w) (base := base) (mg := mg) FNr  FDr bDr gDr GDr FOd bOd gOd GOd   m_len m_max m_tuple m_list
  exact ok_Law (P := l.prog) (w := w) (base := base) FLaw  FSt bSt gSt GSt FDr bDr gDr GDr FIn bIn gIn GIn FOd bOd gOd GOd FLa bLa gLa GLa FNr bNr gNr GNr FLv bLv gLv GLv FIv bIv gIv GIv FSm bSm gSm GSm   m_range m_len m_tuple m_repr
end Pv

open PySem PySem.W PyProof.Rows
set_option maxRecDepth 100000 in
set_option maxHeartbeats 0 in
theorem PySem.Challenge.cw_postvote_k28_vectors_judged_holds : PySem.Challenge.rw_postvote_k28_vectors_judged.Holds := by
  w_on; o_law; k_head; (case hw => w_witness2)
  k_fill
  refine Pv.walkG (l := PySem.Challenge.rw_postvote_k28_vectors_judged) (n := 63) (k := 8) (x := "_law_script") (sp := fun w => Pv.spLaw _) rfl (by decide) rfl ⟨rfl, by decide, by decide⟩ (fun w h Y => PySem.W.kIn_of Y) ?F (fun _ _ a ns hl _ _ hS => ⟨a, ns, rfl, hS, hl, fun _ => rfl⟩)
  case F =>
    intro w mg fa h KX G hmg
    refine' Pv.all_mk KX G hmg ?aWh ?lWh ?cWh ?kWh ?aWi ?lWi ?cWi ?kWi ?aTo ?lTo ?cTo ?kTo ?aOp ?lOp ?cOp ?kOp ?aDm ?lDm ?cDm ?kDm ?aEx ?lEx ?cEx ?kEx ?aFr ?lFr ?cFr ?kFr ?aCl ?lCl ?cCl ?kCl ?aCr ?lCr ?cCr ?kCr ?aRe ?lRe ?cRe ?kRe ?aGr ?lGr ?cGr ?kGr ?aIv ?lIv ?cIv ?kIv ?aMn ?lMn ?cMn ?kMn ?aSt ?lSt ?cSt ?kSt ?aDr ?lDr ?cDr ?kDr ?aSm ?lSm ?cSm ?kSm ?aAm ?lAm ?cAm ?kAm ?aIn ?lIn ?cIn ?kIn ?aLd ?lLd ?cLd ?kLd ?aLr ?lLr ?cLr ?kLr ?aLw ?lLw ?cLw ?kLw ?aLo ?lLo ?cLo ?kLo ?aLv ?lLv ?cLv ?kLv ?aLa ?lLa ?cLa ?kLa ?aOd ?lOd ?cOd ?kOd ?aNr ?lNr ?cNr ?kNr ?aLaw ?lLaw ?cLaw ?kLaw ?z0 ?z1 ?z2 ?z3 ?z4 ?z5 ?z6 ?z7 ?z8 ?z9 ?z10 ?z11 ?z12 ?z13 ?z14
    (case aWh => k_is); (case lWh => k_is); (case cWh => k_is); (case kWh => k_is); (case aWi => k_is); (case lWi => k_is); (case cWi => k_is); (case kWi => k_is); (case aTo => k_is); (case lTo => k_is); (case cTo => k_is); (case kTo => k_is); (case aOp => k_is); (case lOp => k_is); (case cOp => k_is); (case kOp => k_is); (case aDm => k_is); (case lDm => k_is); (case cDm => k_is); (case kDm => k_is); (case aEx => k_is); (case lEx => k_is); (case cEx => k_is); (case kEx => k_is); (case aFr => k_is); (case lFr => k_is); (case cFr => k_is); (case kFr => k_is); (case aCl => k_is); (case lCl => k_is); (case cCl => k_is); (case kCl => k_is); (case aCr => k_is); (case lCr => k_is); (case cCr => k_is); (case kCr => k_is); (case aRe => k_is); (case lRe => k_is); (case cRe => k_is); (case kRe => k_is); (case aGr => k_is); (case lGr => k_is); (case cGr => k_is); (case kGr => k_is); (case aIv => k_is); (case lIv => k_is); (case cIv => k_is); (case kIv => k_is); (case aMn => k_is); (case lMn => k_is); (case cMn => k_is); (case kMn => k_is); (case aSt => k_is); (case lSt => k_is); (case cSt => k_is); (case kSt => k_is); (case aDr => k_is); (case lDr => k_is); (case cDr => k_is); (case kDr => k_is); (case aSm => k_is); (case lSm => k_is); (case cSm => k_is); (case kSm => k_is); (case aAm => k_is); (case lAm => k_is); (case cAm => k_is); (case kAm => k_is); (case aIn => k_is); (case lIn => k_is); (case cIn => k_is); (case kIn => k_is); (case aLd => k_is); (case lLd => k_is); (case cLd => k_is); (case kLd => k_is); (case aLr => k_is); (case lLr => k_is); (case cLr => k_is); (case kLr => k_is); (case aLw => k_is); (case lLw => k_is); (case cLw => k_is); (case kLw => k_is); (case aLo => k_is); (case lLo => k_is); (case cLo => k_is); (case kLo => k_is); (case aLv => k_is); (case lLv => k_is); (case cLv => k_is); (case kLv => k_is); (case aLa => k_is); (case lLa => k_is); (case cLa => k_is); (case kLa => k_is); (case aOd => k_is); (case lOd => k_is); (case cOd => k_is); (case kOd => k_is); (case aNr => k_is); (case lNr => k_is); (case cNr => k_is); (case kNr => k_is); (case aLaw => k_is); (case lLaw => k_is); (case cLaw => k_is); (case kLaw => k_is); (case z0 => k_is); (case z1 => k_is); (case z2 => k_is); (case z3 => k_is); (case z4 => k_is); (case z5 => k_is); (case z6 => k_is); (case z7 => k_is); (case z8 => k_is); (case z9 => k_is); (case z10 => k_is); (case z11 => k_is); (case z12 => k_is); (case z13 => k_is); (case z14 => k_is)

import PyProof.Rows.All
import Wide.All
import OpenK.AllK
import Wide.FinOn
import HandS.ForMost
import HandS.Wide
import HandS.IsInst
import HandS.TupAny
import HandS.Conv
import KE.GoesMore
import KE.GoesEnum
import HandS.TupMul
import HandS.SetFor
import HandS.Strs
import HandS.Defaults
import HandS.ForExc
import HandS.WideBits
import HandS.Style
import HandS.Deep
import PySem.Challenge.RW_stepsound_k09_whole_maps_joined
set_option Elab.async false
set_option linter.all false
set_option maxRecDepth 100000
namespace My
open PySem PySem.Spec PyProof.Rows L2

/-! ### heaps -/
theorem same_new {H : Hp} {p : Addr} {o : HO} (h : H p = none) : Same H (upd H p o) := fun b x e => by
  rw [upd_ne (ne_of_none e h)]
  exact e
theorem same_tup {K : PySem.W.Frag} {H H' : Hp} {a : Addr} {xs : List V} (e : Same H H') (h : SqT K H a xs) : SqT K H' a xs := by
  rcases h with (h | ⟨o, h⟩) | h
  · exact .inl (.inl (e _ _ h))
  · exact .inl (.inr ⟨o, e _ _ h⟩)
  · exact .inr h
/-- every tuple stands -/
def TupS (H H' : Hp) : Prop := ∀ b xs, H b = some (.tup xs) → H' b = some (.tup xs)
theorem Same.tupS {H H' : Hp} (e : Same H H') : TupS H H' := fun b xs h => e b _ h

/-! ### rules within a comprehension: the written part by its own name -/
theorem ix_tupK {X : Cx} {K : PySem.W.Frag} (h : X.K = K := by rfl) : IxR X (rIxT K) := by
  subst h
  exact ix_tup
theorem ix_listK {X : Cx} {K : PySem.W.Frag} (h : X.K = K := by rfl) : IxR X (rIxL K) := by
  subst h
  exact ix_list
def rLen (K : PySem.W.Frag) : List V → Hp → VK → Prop := fun xs H Q => ∃ p ys, xs = [.ref p] ∧ (SqL K H p ys ∨ SqT K H p ys) ∧ Q (.int ys.length) H
theorem call_lenK {X : Cx} {K : PySem.W.Frag} (h : X.K = K := by rfl) : CallR X (.builtin "len") (rLen K) := by
  subst h
  exact call_len_seq
/-! ### the drawer of a law: a dict of two lists and a number -/
def dd (c l : Addr) (k : Int) : List (Key × V) := [(.inr "cells", .ref c), (.inr "left", .ref l), (.inr "at", .int k)]
theorem nCL : ¬ ((Sum.inr ("cells" : Str) : Key) = Sum.inr ("left" : Str)) := by decide +kernel
theorem nCA : ¬ ((Sum.inr ("cells" : Str) : Key) = Sum.inr ("at" : Str)) := by decide +kernel
theorem nLC : ¬ ((Sum.inr ("left" : Str) : Key) = Sum.inr ("cells" : Str)) := by decide +kernel
theorem nLA : ¬ ((Sum.inr ("left" : Str) : Key) = Sum.inr ("at" : Str)) := by decide +kernel
theorem nAC : ¬ ((Sum.inr ("at" : Str) : Key) = Sum.inr ("cells" : Str)) := by decide +kernel
theorem nAL : ¬ ((Sum.inr ("at" : Str) : Key) = Sum.inr ("left" : Str)) := by decide +kernel
theorem dd_c (c l : Addr) (k : Int) : valV (dd c l k) (.inr "cells") = some (.ref c) := valV_pos rfl
theorem dd_l (c l : Addr) (k : Int) : valV (dd c l k) (.inr "left") = some (.ref l) := (valV_neg nCL).trans (valV_pos rfl)
theorem dd_a (c l : Addr) (k : Int) : valV (dd c l k) (.inr "at") = some (.int k) := (valV_neg nCA).trans ((valV_neg nLA).trans (valV_pos rfl))
theorem sCL : ¬ (("cells" : Str) = "left") := by decide +kernel
theorem sCA : ¬ (("cells" : Str) = "at") := by decide +kernel
theorem sLA : ¬ (("left" : Str) = "at") := by decide +kernel
theorem sAL : ¬ (("at" : Str) = "left") := by decide +kernel
theorem dd_pl (c l l' : Addr) (k : Int) : putK (dd c l k) (.inr "left") (.ref l') = dd c l' k := by
  simp [putK, dd, sCL, sAL]
theorem dd_pa (c l : Addr) (k k' : Int) : putK (dd c l k) (.inr "at") (.int k') = dd c l k' := by
  simp [putK, dd, sCA, sLA]
theorem dd_mk (c l : Addr) : mergeK [] [(Sum.inr "cells", V.ref c), (Sum.inr "left", V.ref l), (Sum.inr "at", V.int 0)] = dd c l 0 := by
  simp [mergeK, putK, dd, sCL, sCA, sLA]

/-- at m the drawer with its lists at c and l, for n draws more -/
structure Dr (H : Hp) (m c l : Addr) (n : Nat) : Prop where
  ex : ∃ (cs ls : List Int) (k : Int), H m = some (.dK (dd c l k)) ∧ H c = some (.lst (cs.map V.int)) ∧ H l = some (.lst (ls.map V.int)) ∧ c ≠ l ∧
    cs.length ≤ 63 ∧ ls.length ≤ 63 ∧ (∀ x ∈ ls, 0 ≤ x) ∧ 0 ≤ k ∧ k + (n : Int) ≤ 1000000
/-- all but the drawer's own stands; its list of what is left is the old one or new -/
structure Kp (m l : Addr) (H : Hp) (l' : Addr) (H' : Hp) : Prop where
  st : ∀ b o, H b = some o → b ≠ m → b ≠ l → H' b = some o
  nw : l' = l ∨ H l' = none
  dm : ∀ b, H' b = none → H b = none
theorem Kp.refl (m l : Addr) (H : Hp) : Kp m l H l H := ⟨fun _ _ h _ _ => h, .inl rfl, fun _ h => h⟩
theorem Kp.off {m l l' : Addr} {H H' : Hp} (k : Kp m l H l' H') {b : Addr} {o : HO} (h : H b = some o) (n : b ≠ l) : b ≠ l' := by
  rcases k.nw with e | e
  · rw [e]; exact n
  · exact ne_of_none h e
theorem Kp.trans {m l l' l'' : Addr} {H H' H'' : Hp} (a : Kp m l H l' H') (b : Kp m l' H' l'' H'') : Kp m l H l'' H'' := by
  refine ⟨fun q o h n1 n2 => b.st q o (a.st q o h n1 n2) n1 (a.off h n2), ?_, fun q e => a.dm q (b.dm q e)⟩
  rcases b.nw with e | e
  · rw [e]; exact a.nw
  · exact .inr (a.dm _ e)
/-- a new object -/
theorem Kp.new {m l : Addr} {H : Hp} {p : Addr} {o : HO} (h : H p = none) : Kp m l H l (upd H p o) := by
  refine ⟨fun b u e _ _ => same_new h b u e, .inl rfl, fun b e => ?_⟩
  unfold upd at e
  split at e
  · cases e
  · exact e
theorem Dr.new {H : Hp} {m c l n : Nat} {p : Addr} {o : HO} (d : Dr H m c l n) (h : H p = none) : Dr (upd H p o) m c l n := by
  obtain ⟨cs, ls, k, h1, h2, h3, r⟩ := d.ex
  exact ⟨cs, ls, k, same_new h _ _ h1, same_new h _ _ h2, same_new h _ _ h3, r⟩
/-- a change of another object than the drawer's -/
theorem Dr.set {H : Hp} {m c l n : Nat} {p : Addr} {o : HO} (d : Dr H m c l n) (n1 : p ≠ m) (n2 : p ≠ c) (n3 : p ≠ l) : Dr (upd H p o) m c l n := by
  obtain ⟨cs, ls, k, h1, h2, h3, r⟩ := d.ex
  exact ⟨cs, ls, k, (upd_ne n1.symm).trans h1, (upd_ne n2.symm).trans h2, (upd_ne n3.symm).trans h3, r⟩
theorem Dr.less {H : Hp} {m c l n k : Nat} (d : Dr H m c l n) (h : k ≤ n) : Dr H m c l k := by
  obtain ⟨cs, ls, z, h1, h2, h3, h4, h5, h6, h7, h8, h9⟩ := d.ex
  exact ⟨cs, ls, z, h1, h2, h3, h4, h5, h6, h7, h8, by omega⟩
theorem Dr.same {H H' : Hp} {m c l n : Nat} (d : Dr H m c l n) (s : Same H H') : Dr H' m c l n := by
  obtain ⟨cs, ls, k, h1, h2, h3, r⟩ := d.ex
  exact ⟨cs, ls, k, s _ _ h1, s _ _ h2, s _ _ h3, r⟩
theorem Kp.same {m l : Addr} {H H' : Hp} (s : Same H H') : Kp m l H l H' := ⟨fun b o h _ _ => s b o h, .inl rfl, fun _ h => s.free h⟩
/-- tuples stand -/
theorem Kp.tup {m c l l' n : Addr} {H H' : Hp} (k : Kp m l H l' H') (d : Dr H m c l n) : TupS H H' := fun b xs h => by
  obtain ⟨cs, ls, z, h1, h2, h3, r⟩ := d.ex
  exact k.st b _ h (ne_of h h1 nofun) (ne_of h h3 nofun)
end My

/-! Defs that write out data (repr): their promise is asked only where nothing is being written out around them. -/
namespace My
open PySem PySem.Spec PyProof.Rows L2
/-- as the layer's promise of a def, for calls around which no guard stands -/
structure FnG (P : Program) (w : World) (K : PySem.W.Frag) (mg : Str → Option Value) (base : Heap) (k : Nat) (f : Addr) (fd : FuncData)
    (ps : List Str) (sp : Sp) : Prop where
  len : ∀ vs H Q E, sp vs H Q E → vs.length = ps.length
  go : ∀ (A : Around) (outer : List Env) (s : Shared) (H : Hp) (args : Args) (us : List Value) (vs : List V) (Q : VK) (E : XK),
    A.guards = some [] → Room k A → Env0 P w K mg base A outer s H → BindsTo s fd args (ps.zip us) → Vals vs us → sp vs H Q E →
    codeAny (model P w) A (.call (.ref f) args) (CR CX0 outer P w H s Q E) s
section
variable {P : Program} {w : World} {K : PySem.W.Frag} {mg : Str → Option Value} {base : Heap}
theorem FnG.of {k : Nat} {f : Addr} {fd : FuncData} {ps : List Str} {sp : Sp} (F : FnOk P w K mg base CX0 k f fd ps sp) : FnG P w K mg base k f fd ps sp :=
  ⟨F.len, fun A o s H args us vs Q E _ hr => F.run A o s H args us vs Q E hr⟩
theorem okG {x qual : Str} {st : Stmt} {f : Addr} {fd : FuncData} {N ps : List Str} {k : Nat} {sp : Sp} (F : Fun K x qual st f fd)
    (S : FnScope N ps (defScope st)) (len : ∀ vs H Q E, sp vs H Q E → vs.length = ps.length)
    (body : ∀ (cdv : Value) (A : Around) (outer : List Env) (s : Shared) (H : Hp) (vs : List V) (Q : VK) (E : XK), A.guards = some [] →
      Room k (A.deeper (envOfC qual (defScope st) s.heap.objs.size f cdv)) → sp vs H Q E →
      ∃ t, PSs (cxOf CX0 P w K mg base N qual (defScope st) f cdv A outer s H E).nox (defBody st) t ∧
        t { nx := fun _ H' => Q .non H', rt := Q } (start N vs) H) :
    FnG P w K mg base (k + 1) f fd ps sp := by
  obtain ⟨oc, od, kV, doc, pm, an, cdv, ct, osl, rfl, lk, hcd⟩ := F.ex
  refine ⟨len, fun A outer s H args us vs Q E hg room env0 binds rel want => ?_⟩
  have inK : K.In s.heap := env0.mod.kin.keeps fun b o e => (env0.bs b o e).1
  have noLim : s.heap.NoLimit := env0.mod.nolimit.keeps fun b o e => (env0.bs b o e).1
  have kinds : ∀ y ∈ ps.zip us, (defScope st).names.lookup y.1 = some .local ∨
      ((defScope st).names.lookup y.1 = some .cell ∧ ((cellsFrom (s.heap.objs.size + 1) (defScope st).names []).lookup y.1).isSome = true) := by
    rintro ⟨n, v⟩ hy
    rcases S.par n (List.of_mem_zip hy).1 with q | q
    · exact Or.inl q
    · exact Or.inr ⟨q, PySem.W.cellsFrom_some _ _ _ (Or.inl q)⟩
  refine codeAny_call_function room.depth (inK _ _ lk) rfl S.co S.gen rfl (PySem.W.codeRec_of inK hcd)
    (binds _ _ _ _ ?_)
  refine wpAny_newFunctionEnv_cells S.kind kinds
    fun env he s1 x => ?_
  subst he
  refine ⟨noLim.keeps x.toInCall.keep,
    codeAny_func ?_⟩
  obtain ⟨t, ht, run⟩ := body cdv A outer s H vs Q E hg (room.deeper _) want
  have start0 : Inv (cxOf CX0 P w K mg base N qual (defScope st) f cdv A outer s H E) [] (start N vs) H s1 :=
    inv_start S room.hd env0 (len _ _ _ _ want) rel x
  refine wpAny_mono (ht.nox.run [] s1 (start N vs) H _ start0 run)
    (fun flow s' hs => ?_) fun e s' hs => hs
  have fin : ∀ {σ' : L2.St} {H' : Hp} {v : V} {u : Value}, Inv (cxOf CX0 P w K mg base N qual (defScope st) f cdv A outer s H E) [] σ' H' s' →
      RelV v u → Q v H' → CE outer P w H s Q u s' :=
    fun {_ H' v _} J rv q => ⟨v, H', J.os, J.bare, J.base, J.hok, rv, q⟩
  cases flow with
  | ret u =>
    obtain ⟨v, σ', H', J, rv, q⟩ := hs
    exact fin J rv q
  | next =>
    obtain ⟨σ', H', J, q⟩ := hs
    exact fin (v := V.non) (u := Value.none) J rfl q
  | brk => obtain ⟨_, _, _, q⟩ := hs; exact q.elim
  | cont => obtain ⟨_, _, _, q⟩ := hs; exact q.elim
end
section
variable {X : Cx}
theorem goG {k : Nat} {f : Addr} {fd : FuncData} {ps : List Str} {sp : Sp} {ds : List Value} {dvs : List V} {E : XK} {pins : List (Addr × Obj)} {σ : L2.St} {H : Hp} {s : Shared} {Q : VK} {us : List Value} {vs : List V}
    (F : FnG X.prog X.w X.K X.mg X.base k f fd ps sp) (hg : X.A.guards = some []) (hr : Room k X.A) (hb : Binds X.K fd ps ds) (hd : Vals dvs ds) (hx : Passes CX0 X E)
    (I : Inv X pins σ H s) (r : Vals vs us) (h : sp (vs ++ dvs) H Q E) :
    wpAny (model X.prog X.w) X.A (call (.ref f) us) (EP X pins σ Q) X.xe s := by
  have rr : Vals (vs ++ dvs) (us ++ ds) := r.append hd
  have len : (us ++ ds).length = ps.length := rr.length ▸ F.len _ _ _ _ h
  refine wpAny_call (codeAny_mono (F.go X.A X.stack s H ⟨us, []⟩ (us ++ ds) (vs ++ dvs) Q E hg hr I.env0 (hb s us I.kIn len) rr h) ?_)
  intro res s' hq
  match res, hq with
  | .error e, hq => exact hx pins σ H s e s' I hq
  | .ok (.ret u), hq => exact I.after hq
/-- f(e, ..), f writing out data -/
theorem pe_callG {k : Nat} {f : Addr} {fd : FuncData} {ps : List Str} {sp : Sp} {ds : List Value} {dvs : List V} {E : XK} {x : Str} {e : Expr} {es : List Expr} {t : TA} {p pos : Pos}
    (F : FnG X.prog X.w X.K X.mg X.base k f fd ps sp) (hgd : X.A.guards = some []) (hr : Room k X.A) (hg : Gl X x) (hm : X.mg x = some (.ref f)) (hk : PySem.W.keepIn X.K (.ref f) = true)
    (hb : Binds X.K fd ps ds) (hd : Vals dvs ds) (hx : Passes CX0 X E) (ha : PA X (e :: es) t) (hdb : (x == ("__debug__" : Str)) = false := by decide)
    (he : starEach (e :: es) X.env = (false, eval e X.env) :: starEach es X.env := by rfl)
    (hpl : (backTo pos (starEach es X.env)).any (·.1) = false := by rfl) :
    PE X (.Call (.Name x p) (e :: es) [] pos) (tCall sp dvs E t) := by
  refine ⟨fun pins s σ H Q I h => wpAny_Call_Name_kw (ld_glob I hg hm ?_ hdb)⟩
  refine PySem.W.callWith_K (h₀ := X.base) I.ok.mod.kin hk
    (thn (ha.run pos pins s σ H _ I h) fun us s1 ⟨vs, H1, I1, r, q⟩ => ⟨I1.kIn, ?_⟩) he hpl
  exact goG F hgd hr hb hd hx I1 r q

/-! ### repr -/
def rRepr (K : PySem.W.Frag) : List V → Hp → VK → Prop := fun xs H Q => ∃ (v : V) (d : PyData), xs = [v] ∧ Dp K H v d ∧ d.showable = true ∧ d.hasDict = false ∧
  d.depth ≤ 60 ∧ d.shown.length ≤ sizeLine ∧ Q (.str d.shown) H
theorem call_repr (hg : X.A.guards = some []) (hu : X.A.units + 64 < cLine) : CallR X (.builtin "repr") (rRepr X.K) := by
  intro pins s σ H xs us Q I r h
  obtain ⟨v, d, rfl, hd, hs, hn, hdp, hz, q⟩ := h
  obtain ⟨u, rfl, ru⟩ := vals1 r
  cases hd with
  | non =>
    cases ru
    exact P.repr_of_none ⟨.str _, H, I.tok _, ⟨_, rfl⟩, q⟩
  | bl b =>
    cases ru
    exact P.repr_of_bool ⟨.str _, H, I.tok _, ⟨_, rfl⟩, q⟩
  | int i =>
    obtain ⟨t, rfl⟩ := ru
    exact P.repr_of_int (of_decide_eq_true hs) ⟨.str _, H, I.tok _, ⟨_, rfl⟩, q⟩
  | str x =>
    obtain ⟨t, rfl⟩ := ru
    exact P.repr_of_str ⟨.str _, H, I.tok _, ⟨_, rfl⟩, q⟩ hz
  | @lst a xs ds h1 h2 =>
    cases ru
    obtain ⟨as, rd⟩ := Dp.reads I (.list ds) (.ref a) (.ref a) (.lst h1 h2) rfl
    refine repr_of_reads' rd hs (fun z => by rw [hn] at z; cases z) hg (by omega) (fun _ _ e => e) (fun h' u tk hk => ?_) hz
    exact ⟨.str _, H, I.kept hk, ⟨_, rfl⟩, q⟩
  | @tup a xs ds h1 h2 =>
    cases ru
    obtain ⟨as, rd⟩ := Dp.reads I (.tuple ds) (.ref a) (.ref a) (.tup h1 h2) rfl
    refine repr_of_reads' rd hs (fun z => by rw [hn] at z; cases z) hg (by omega) (fun _ _ e => e) (fun h' u tk hk => ?_) hz
    exact ⟨.str _, H, I.kept hk, ⟨_, rfl⟩, q⟩
end
end My

/-! The end of a law whose promise is asked where no guard stands. -/
namespace My
open PySem PySem.Spec PyProof.Rows L2
theorem law_callG {P : Program} {w : World} {K : PySem.W.Frag} {mg mb : Str → Option Value} {k : Nat} {fa a : Addr} {fd : FuncData} {x : Str} {sp : Sp} {s₁ : Shared} {vs : List Value} {ns : List Int}
    (inK : K.In s₁.heap) (glob : s₁.heap.Ns mainGlobals mg) (blt : s₁.heap.Ns builtinsNs mb) (boot : ∀ x : Str, x ≠ "__name__" → mb x = bootBuiltins x) (nolim : s₁.heap.NoLimit) (nogen : s₁.gens = #[])
    (hobj : s₁.heap.get? a = some { cls := .type "list", data := .seq vs.toArray }) (hints : IntsAre vs ns) (hlen : ns.length ≤ sizeLine) (room : Room k callerA)
    (F : ∀ base : Heap, K.In base → base.Ns mainGlobals mg → FnG P w K mg base k fa fd [x] sp) (binds : ∀ (s : Shared) (u : Value), BindsTo s fd ⟨[u], []⟩ [(x, u)])
    (want : ∀ H : Hp, Only H → SqL K H a (ns.map V.int) → sp [.ref a] H (fun v _ => v = .bl true) fun _ _ _ => False) :
    codeAny (model P w) callerA (.call (.ref fa) ⟨[.ref a], []⟩) (fun r s' => r = .ok (.ret (.bool true)) ∧ OldK s₁.heap s'.heap ∧ s'.os = s₁.os ∧ AllBare s'.gens) s₁ := by
  have relv := vals_ints hints
  have core : ∀ H : Hp, Only H → SqL K H a (ns.map V.int) → HOk P w H s₁.heap → (∀ b, H b ≠ none → b = a) → (H a ≠ none → K.lookup a = none) →
      codeAny (model P w) callerA (.call (.ref fa) ⟨[.ref a], []⟩) (fun r s' => r = .ok (.ret (.bool true)) ∧ OldK s₁.heap s'.heap ∧ s'.os = s₁.os ∧ AllBare s'.gens) s₁ := by
    intro H only seq ok one notK
    have up : ∀ {b : Addr} {o : Obj}, s₁.heap.get? b = some o → H b = none → (hidT s₁.heap H).get? b = some o := fun e n => hidT_get e n
    have dictFree : ∀ {b : Addr} {o : Obj} {es : Array DictEntry} {ep : Nat}, s₁.heap.get? b = some o → o.data = .dict es ep → H b = none := by
      intro b o es ep e d
      cases q : H b with
      | none => rfl
      | some u =>
        have eb : b = a := one b (fun z => by rw [q] at z; cases z)
        rw [eb, hobj] at e
        cases e
        exact Data.noConfusion (show Data.seq vs.toArray _ = Data.dict es ep from d)
    have nsUp : ∀ {b : Addr} {m : Str → Option Value}, s₁.heap.Ns b m → (hidT s₁.heap H).Ns b m :=
      fun {_ _} ⟨o, es, ep, e, d, r⟩ => ⟨o, es, ep, up e (dictFree e d), d, r⟩
    have kUp : K.In (hidT s₁.heap H) := by
      intro b o e
      refine up (inK b o e) ?_
      cases q : H b with
      | none => rfl
      | some u =>
        have eb : b = a := one b (fun z => by rw [q] at z; cases z)
        rw [eb, notK (fun z => by rw [← eb, q] at z; cases z)] at e
        cases e
    have mod : Mod K mg (hidT s₁.heap H) := ⟨kUp, nsUp glob, ⟨mb, nsUp blt, boot⟩, nolim.imp fun mc z => ⟨nsUp z.1, z.2⟩⟩
    have env0 : Env0 P w K mg (hidT s₁.heap H) callerA [] s₁ H :=
      ⟨rfl, mod, fun b o e => of_hidT e, Nat.le_of_eq (hidT_size _ _), trivial, fun b hb => absurd (show b ∈ ([] : List Addr) from hb) (by simp), ok, .of_eq nogen⟩
    have call := (F _ kUp (nsUp glob)).go callerA [] s₁ H ⟨[.ref a], []⟩ [.ref a] [.ref a] _ _ rfl room env0 (binds s₁ (.ref a)) (.cons rfl .nil) (want H only seq)
    refine codeAny_mono call fun r s' h => ?_
    match r, h with
    | .error e, h => exact (show False from h).elim
    | .ok (.ret u), h =>
      obtain ⟨v, H', os, bare, un, ok', rv, q⟩ := h
      obtain rfl : v = .bl true := q
      obtain rfl : u = Value.bool true := rv
      refine ⟨rfl, OldK.of_keep (fun b o e => ?_), os, bare⟩
      rcases only b with z | ⟨ob, xs, z⟩
      · exact un.keep b o e z (fun y => absurd (show b ∈ ([] : List Addr) from y) (by simp)) (by simp)
      · obtain ⟨e1, _⟩ := ok b _ z
        obtain ⟨e2, _⟩ := ok' b _ (un.frzs b ob _ z)
        rw [e] at e1
        cases e1
        exact e2
  cases hk : K.lookup a with
  | some o =>
    have e := inK a o hk
    rw [hobj] at e
    cases e
    have stands : SqL K (fun _ => none) a (ns.map V.int) := .inr ⟨_, vs.toArray, _, hk, rfl, rfl, rfl, by rw [List.size_toArray, hints.length]; exact hlen, by simpa using relv⟩
    exact core (fun _ => none) (fun _ => .inl rfl) stands (fun b u z => nomatch (show (none : Option HO) = some u from z)) (fun b z => absurd rfl z) fun z => absurd rfl z
  | none =>
    let o : Obj := { cls := .type "list", data := .seq vs.toArray }
    have atA : (fun b => if b = a then some (HO.frz o (.lst (ns.map V.int))) else none) a = some (.frz o (.lst (ns.map V.int))) := if_pos rfl
    refine core (fun b => if b = a then some (.frz o (.lst (ns.map V.int))) else none) (fun b => ?_) (.inl (.inr ⟨o, atA⟩)) (fun b u z => ?_) (fun b z => ?_) fun _ => hk
    · by_cases hb : b = a
      · exact .inr ⟨_, _, if_pos hb⟩
      · exact .inl (if_neg hb)
    · by_cases hb : b = a
      · have y := (if_pos hb).symm.trans z
        cases y
        rw [hb]
        exact ⟨hobj, by rw [List.length_map]; exact hlen, vs, _, relv, hobj⟩
      · exact nomatch (if_neg hb).symm.trans z
    · by_cases hb : b = a
      · exact hb
      · exact absurd (if_neg hb) z
theorem walk_ofG {l : PySem.W.OpenLaw} {n k : Nat} {q : Program} {loose : List Str} {XP : (Str → Option Value) → Heap → Prop} {YP : World → Heap → Prop} {d : DefRec}
    {K : Params → PySem.W.Frag} {sp : PySem.W.Frag → Sp} {x : Str}
    (hn : l.most = some n) (hn2 : n ≤ sizeLine) (hdf : d.params.defaults = []) (room : Room k callerA)
    (hY : ∀ (w : World) (h : Heap), YP w h → (K w.params).In h)
    (F : ∀ (w : World) (mg : Str → Option Value) (fa : Addr) (h : Heap), (K w.params).In h → h.Ns mainGlobals mg → mg d.name = some (.ref fa) →
      ∃ fd : FuncData, (∀ (s : Shared) (u : Value), BindsTo s fd ⟨[u], []⟩ [(x, u)]) ∧
        ∀ base : Heap, (K w.params).In base → base.Ns mainGlobals mg → FnG l.prog w (K w.params) mg base k fa fd [x] (sp (K w.params)))
    (want : ∀ (K : PySem.W.Frag) (H : Hp) (a : Addr) (ns : List Int), ns.length ≤ n → Only H → SqL K H a (ns.map V.int) → sp K [.ref a] H (fun v _ => v = .bl true) fun _ _ _ => False) :
    PySem.W.WalkO q loose XP YP l.row.toRowW d [] (fun f vs => PySem.call f vs) := by
  refine Att.attach_call hn hdf fun w s₀ s₁ mg mb fa o pm cd doc a vs ns G Y ho hd hcd hmg hobj hints hlen hg => ?_
  obtain ⟨fd, hb, hF⟩ := F w mg fa _ (hY w _ Y) G.T.g hmg
  exact law_callG (hY w _ Y) G.T.g G.T.b G.T.builtins G.T.nolimit hg hobj hints
    (Nat.le_trans hlen hn2) room hF hb fun H only seq => want (K w.params) H a ns hlen only seq
end My

/-! for i, x in enumerate(t), t a tuple. -/
namespace My
open PySem PySem.Spec PyProof.Rows L2
/-- what enumerate(v) makes: v's iterator and itself -/
def enumO (a : Addr) : Obj :=
  { cls := .type "enumerate",
    data := .fields #[.none, .bool false, .ref a, rawInt 0, .none, .none] }
set_option maxHeartbeats 1000000 in
theorem meets_enum1 {v : Value} {o : Obj} {G : Heap → Prop} (B : Begins v o G) :
    Meets (Builtin.«enumerate.__new__» ⟨[.type "enumerate", v], []⟩) (fun _ R s => G s.heap ∧
      R (.ok (.ret (.ref (s.heap.push o).objs.size)))
        { s with heap := (s.heap.push o).push (enumO s.heap.objs.size) }) :=
  .of_wp fun prog w A R s ⟨h1, h⟩ => by
    obtain ⟨hp, gens, drawn, tk, os⟩ := s
    have isSub := sub_enumerate
    have step : ∀ {A' : Around} {E : Value → Shared → Prop} {Q : Value → Shared → Prop}, Q (.ref hp.objs.size) ⟨hp.push o, gens, drawn, tk, os⟩ →
        wpAny (model prog w) A' (pyIter v) Q E ⟨hp, gens, drawn, tk, os⟩ :=
      fun q => B.iter prog w _ _ ⟨hp, gens, drawn, tk, os⟩ _ h1 q
    wp_walk using step
    refine wpAny_stack_any fun st => wpAny_pure ?_
    split
    · rename_i c _ _ _ _ _
      by_cases hc : (c == Value.type "enumerate") = true
      · rw [hc]
        wp_walk using step
        exact ⟨_, rfl, h⟩
      · rw [Bool.not_eq_true] at hc
        rw [hc]
        wp_walk using step
        exact ⟨_, rfl, h⟩
    · wp_walk using step
      exact ⟨_, rfl, h⟩
section
variable {prog : Program} {w : World} {A : Around} {E : Value → Shared → Prop} {s : Shared}
theorem enum_call1 {v : Value} {o : Obj} {G : Heap → Prop} {Q : Value → Shared → Prop} (B : Begins v o G) (h1 : G s.heap)
    (h : ∀ h', IsEnum h' (s.heap.objs.size + 1) s.heap.objs.size 0 .none → h'.get? s.heap.objs.size = some o →
      (∀ b u, s.heap.get? b = some u → h'.get? b = some u) → Q (.ref (s.heap.objs.size + 1)) { s with heap := h' }) :
    wpAny (model prog w) A (call (.type "enumerate") [v]) Q E s := by
  have size1 : (s.heap.push o).objs.size = s.heap.objs.size + 1 := Heap.size_push ..
  have made : IsEnum ((s.heap.push o).push (enumO s.heap.objs.size)) (s.heap.objs.size + 1) s.heap.objs.size 0 .none := by
    have z := Heap.get?_push_size (s.heap.push o) (o := enumO s.heap.objs.size) rfl
    rw [size1] at z
    exact z
  refine callType_new F.called_enumerate (by decide) (F.typeCall_enumerate_1 _) (F.newCall_enumerate_1 _)
    (fun obj => F.args_object_init_2 obj _) F.entry_enumerate_new (meets_enum1 B) ⟨h1, ?_⟩
  show _ ∧ _
  rw [size1]
  exact ⟨⟨_, made, rfl⟩, h _ made (Heap.get?_push_of_some _ (Heap.get?_push_size _ B.free)) fun b u x => Heap.get?_push_of_some _ (Heap.get?_push_of_some _ x)⟩
end
/-- the tuple at a, each item in a new pair with its number -/
def Itu (K : PySem.W.Frag) (a : Addr) : It where
  go i H := ∃ (xs : List V) (x : V), SqT K H a xs ∧ xs[i]? = some x
  yld i H v H' := ∃ T x, v = .ref T ∧ H T = none ∧ H' = upd H T (.tup [.int (i : Nat), x]) ∧ ∀ xs, SqT K H a xs → xs[i]? = some x
  stop i H := ∃ xs : List V, SqT K H a xs ∧ xs.length = i
def EnumAt (e it a : Addr) (i : Nat) (h : Heap) : Prop := (∃ old, IsEnum h e it ((i : Nat) : Int) old) ∧ h.IsTupleIter it a i ∧ e ≠ it
theorem turn_enumT {P : Program} {w : World} {K : PySem.W.Frag} {elts : List Expr} {kk : Nat} {tpos : Pos} (a e it : Addr) (hae : a ≠ e) (hai : a ≠ it) :
    Turn P w K (.Tuple elts kk tpos) (Itu K a) [e, it] e (EnumAt e it a) where
  mem := by simp
  obj := fun i h st b hb => by
    obtain ⟨⟨old, he⟩, ⟨o, ho, hc, hd⟩, _⟩ := st
    rcases List.mem_cons.mp hb with z | z
    · rw [z]; exact ⟨_, he, fun v q => nomatch q⟩
    · rw [List.mem_singleton.mp z]; exact ⟨o, ho, fun v q => by rw [hd] at q; cases q⟩
  keep := fun i h h' st k => by
    obtain ⟨⟨old, he⟩, hi, hne⟩ := st
    exact ⟨⟨old, k e (by simp) _ he⟩, hi.at fun o q => k it (by simp) o q, hne⟩
  item := by
    intro X hP hw hK hc i pins s σ H E I hf st hg
    subst hP hw hK
    obtain ⟨⟨old, he⟩, hit, hne⟩ := st
    obtain ⟨xs, x, hq, hx⟩ := hg
    obtain ⟨its, rv, p, hz⟩ := I.tuple hq
    obtain ⟨u, hu, ru⟩ := rv.get hx
    have helt : e < s.heap.objs.size := Heap.lt_size he
    have hilt : it < s.heap.objs.size := by
      obtain ⟨_, q, _⟩ := hit
      exact Heap.lt_size q
    have hlt : i < its.toArray.size := by
      rw [List.size_toArray]
      exact (List.getElem?_eq_some_iff.mp hu).1
    have hef : e ∉ [it, a] := by
      intro z
      rcases List.mem_cons.mp z with q | q
      · exact hne q
      · exact hae (List.mem_singleton.mp q).symm
    refine wpAny_pyNext_enum_itemD (Draws.tuple (A := X.A.in1) (I.ok.hd hc) it a hai its.toArray) he ⟨hit, p⟩ hlt hne hef fun y h' tk hy ho hst' hT hsz hk => ?_
    have hy' : y = u := by
      have z : its.toArray[i]? = some u := by simpa using hu
      exact Option.some.inj (hy.symm.trans z)
    subst hy'
    refine ⟨_, rfl, wpAny_letOwnedTupleGo_enum (s := { s with heap := h', toks := tk + 1 }) ho fun h'' he' sb => ?_⟩
    have hT2 : h''.get? s.heap.objs.size = some { cls := .type "tuple", data := .seq #[.int i tk, y] } :=
      (sb.2 _ (Nat.ne_of_gt helt)).trans hT
    have new : ObjOk X.prog X.w (upd H s.heap.objs.size (.tup [.int (i : Nat), x])) h'' s.heap.objs.size (.tup [.int (i : Nat), x]) :=
      ⟨(by decide : 2 ≤ sizeLine), [.int i tk, y], .cons ⟨_, rfl⟩ (.cons ru .nil), _, hT2, rfl, _, rfl⟩
    have I1 : Inv X pins σ (upd H s.heap.objs.size (.tup [.int (i : Nat), x])) { s with heap := h'', toks := tk + 1 } :=
      I.turnedNew (ch := [e, it])
        (fun b ob hb q => (sb.2 b (fun z => hb (by simp [z]))).trans (hk b ob (fun z => hb (by simp [z])) (fun z => hb (by simp [z])) q)) hf (Nat.le_refl _) new
    refine ⟨.ref s.heap.objs.size, _, I1, rfl, ⟨_, x, rfl, I.hok.fresh (Nat.le_refl _), rfl, fun ys hy => by rw [I.tuple_inj hy hq]; exact hx⟩,
      ⟨⟨y, ?_⟩, hst'.1.at fun o q => (sb.2 it (Ne.symm hne)).trans q, hne⟩, fun b hb => ?_⟩
    · rw [show ((i + 1 : Nat) : Int) = (i : Int) + 1 by omega]
      exact he'
    · have hlt : b < s.heap.objs.size := by
        rcases List.mem_cons.mp hb with z | z
        · rw [z]; exact helt
        · rw [List.mem_singleton.mp z]; exact hilt
      rw [upd_ne (Nat.ne_of_lt hlt)]
      exact (hf b hb).1
  done := by
    intro X hP hw hK hc i pins s σ H E I hf st hg
    subst hP hw hK
    obtain ⟨⟨old, he⟩, hit, hne⟩ := st
    obtain ⟨xs, hq, hx⟩ := hg
    obtain ⟨its, rv, p, hz⟩ := I.tuple hq
    obtain ⟨f0, f1, f2, f3, f4, f5⟩ := hf it (by simp)
    have hl : its.toArray.size = i := by rw [List.size_toArray, ← rv.length, hx]
    have st : its.toArray.size = i → (s.heap.IsTupleIter it a its.toArray.size ∧ s.heap.IsTuple a its.toArray) := fun z => ⟨z ▸ hit, p⟩
    refine wpAny_pyNext_enum_endD (Draws.tuple (A := X.A.in1) (I.ok.hd hc) it a hai its.toArray) he (st hl) fun h' eb => ⟨rfl, ?_⟩
    exact I.turned (t' := s.toks) (fun b o hb q => eb b o hb q) f0 f1 f3 f4 f5
  self := fun A i s Q E st h => by
    obtain ⟨⟨_, he⟩, _⟩ := st
    exact wpAny_pyIter_enum he h
def iEnumT (K : PySem.W.Frag) (ta : TA) : TI := fun σ H R => ta σ H fun vs H1 => ∃ a xs, vs = [.ref a] ∧ SqT K H1 a xs ∧ R (Itu K a) H1
theorem pi_enumT {X : Cx} {e : Expr} {ta : TA} {p pos tpos : Pos} {elts : List Expr} {kk : Nat} (hg : Gl X "enumerate") (hm : X.mg "enumerate" = none) (ha : PA X [e] ta)
    (hs : starEach [e] X.env = [(false, eval e X.env)] := by rfl) : PI X (.Tuple elts kk tpos) (.Call (.Name "enumerate" p) [e] [] pos) (iEnumT X.K ta) := by
  refine ⟨fun pins s σ H R I h => Call_ (ld_blt I hg hm boot_enumerate (PyProof.Rows.callWith_type1 ?_ hs rfl))⟩
  refine thn (ha.run pos pins s σ H _ I h) fun us s1 ⟨vs, H1, I1, r1, a, xs, ex, hq, q⟩ => ?_
  subst ex
  obtain ⟨u, rfl, ru⟩ := vals1 r1
  obtain rfl : u = Value.ref a := ru
  obtain ⟨its, rv, p', hz⟩ := I1.tuple hq
  have hlt : a < s1.heap.objs.size := (by obtain ⟨o, ho, _⟩ := p'; exact Heap.lt_size ho)
  refine enum_call1 (begins_tuple a its.toArray) p' fun h' he hit hk => wpAny_pyIter_enum he ?_
  have I2 : Inv X pins σ H1 { s1 with heap := h' } := I1.kept (t' := s1.toks) hk
  refine ⟨s1.heap.objs.size + 1, [s1.heap.objs.size + 1, s1.heap.objs.size], _, _, H1, rfl, I2,
    turn_enumT a (s1.heap.objs.size + 1) s1.heap.objs.size (Nat.ne_of_lt (Nat.lt_succ_of_lt hlt)) (Nat.ne_of_lt hlt), ⟨⟨.none, he⟩, ⟨_, hit, rfl, rfl⟩, Nat.succ_ne_self _⟩, fun b hb => ?_, q⟩
  have hle : s1.heap.objs.size ≤ b := by
    rcases List.mem_cons.mp hb with z | z
    · rw [z]; exact Nat.le_add_right _ _
    · rw [List.mem_singleton.mp z]; exact Nat.le_refl _
  exact I1.fpOk hle (I1.hok.fresh hle)
end My

/-! (v,) * k for great k -/
namespace My
open PySem PySem.Spec PyProof.Rows L2
theorem rep_flat1 {α : Type} (v : α) : ∀ n : Nat, (List.replicate n [v]).flatten = List.replicate n v
  | 0 => rfl
  | n + 1 => by rw [List.replicate_succ, List.flatten_cons, rep_flat1 v n, List.replicate_succ]; rfl
def rRepW (K : PySem.W.Frag) : R2 := fun x y H Q => ∃ (a : Addr) (n : Nat) (z : V), x = .ref a ∧ y = .int (n : Int) ∧ SqT K H a [z] ∧ 2 ≤ n ∧ n ≤ 9000 ∧
  ∀ b, H b = none → Q (.ref b) (upd H b (.tup (List.replicate n z)))
set_option maxHeartbeats 4000000 in
theorem op_repW {X : Cx} : OpR X (binaryOp .Mult) (rRepW X.K) := by
  intro pins st σ H x y v u Q I rx ry want
  obtain ⟨a, n, z, rfl, rfl, seq, low, most, q⟩ := want
  cases rx
  obtain ⟨tk, rfl⟩ := ry
  obtain ⟨vals, rel, ⟨⟨cl, dict, data, slots⟩, found, isT, m, isS⟩, small⟩ := I.tuple seq
  simp only at isT isS
  subst isT isS
  obtain ⟨it, rfl⟩ : ∃ it, vals = [it] := by
    have := rel.length
    match vals, this with
    | [it], _ => exact ⟨it, rfl⟩
  have line := sizeLine_eq
  have one : ([it].toArray.size : Nat) = 1 := rfl
  have flatLen : (List.replicate n [it]).flatten.length = n := by rw [rep_flat1, List.length_replicate]
  have flatNat : (n : Int).toNat = n := by omega
  have many : (List.foldl (fun x1 x2 => x1 ++ x2) #[] (List.replicate (n : Int).toNat [it].toArray)).size ≤ sizeLine := by
    rw [size_rep, List.size_toArray, flatNat, flatLen, line]
    omega
  have bound0 : (decide ((n : Int) < -(2 ^ 63)) || decide ((n : Int) ≥ 2 ^ 63)) = false := by
    rw [decide_eq_false (by omega), decide_eq_false (by omega)]
    rfl
  have bound1 : ([it].toArray.isEmpty || (n : Int) == 1) = false := by
    rw [show [it].toArray.isEmpty = false from rfl, Bool.false_or, beq_eq_false_iff_ne]
    omega
  have bound2 : (decide ((n : Int) ≤ 0) || [it].toArray.isEmpty) = false := by
    rw [show [it].toArray.isEmpty = false from rfl, decide_eq_false (by omega)]
    rfl
  have bound3 : ¬ (([it].toArray.size : Nat) : Int) * (n : Int) > (2 ^ 63 - 1) / 8 := by
    rw [one]
    omega
  have bound4 : Builtin.Tuple.tupleTooMany ((([it].toArray.size : Nat) : Int) * (n : Int)) = false := by
    unfold Builtin.Tuple.tupleTooMany
    rw [line, one, decide_eq_false (by omega)]
  have mulled := tuple_mulW a [it].toArray m dict slots (n : Int) tk bound0 bound1 bound2 bound3 bound4 many
  refine wpAny_binaryOp_repeat_ref (T := "tuple") (U := "int") (by decide) ⟨_, found, rfl⟩ (fun s2 => typeIs_int s2 (n : Int) tk)
    noFill_tuple_mul F.fills_int_mul F.slot_int_rmul
    repeat_tuple F.slot_int_index.lookup ?_
  refine call_meets F.slot_int_rmul (typeIs_int st (n : Int) tk) F.entry_int_rmul (F.args_int_rmul_2 _ _)
    (int_rmul_tuple (n : Int) tk a [it].toArray m dict slots) ⟨found, rfl, ⟨_, found, rfl⟩, ?_⟩
  refine call_meets F.slot_tuple_mul ⟨_, found, rfl⟩ F.entry_tuple_mul
    (F.args_tuple_mul_2 _ _) mulled ⟨found, ?_⟩
  rw [size_rep, flatNat, rep_flat1]
  refine ⟨.ref st.heap.objs.size, _, I.laid (t' := st.toks) (o := .tup (List.replicate n z)) (fun b ob q => Heap.get?_push_of_some _ q)
    (Nat.le_refl _) ?_, rfl, q _ (I.hok.fresh (Nat.le_refl _))⟩
  refine ⟨by rw [List.length_replicate, line]; omega, List.replicate n it, ?_, IsTup.new _ _⟩
  have r1 := rel.rep n
  rw [rep_flat1, rep_flat1] at r1
  exact r1
end My

/-! (v,) * k, k from 1 on -/
namespace My
open PySem PySem.Spec PyProof.Rows L2
set_option maxHeartbeats 4000000 in
theorem mul_one (a : Addr) (items : Array Value) (m : Nat) (dict : Option Addr) (slots : Array (Option Value)) (u : Tok) :
    Meets (Builtin.«tuple.__mul__» ⟨[.ref a, .int 1 u], []⟩) (fun _ R s => s.heap.get? a = some { cls := .type "tuple", dict := dict, data := .seq items m, slots := slots } ∧
      R (.ok (.ret (.ref a))) s) :=
  .of_wp fun prog w A R s h => by
    obtain ⟨hp, g, d, tk, os⟩ := s
    obtain ⟨at0, h⟩ := h
    have f1 := AutoSeq1.idx_int
    wp_walk using wpAny_loadPart' at0
    exact ⟨_, rfl, h⟩
def rRepU (K : PySem.W.Frag) : R2 := fun x y H Q => ∃ (a : Addr) (n : Nat) (z : V), x = .ref a ∧ y = .int (n : Int) ∧ SqT K H a [z] ∧ 1 ≤ n ∧ n ≤ 9000 ∧
  ∀ b H', Same H H' → SqT K H' b (List.replicate n z) → Q (.ref b) H'
set_option maxHeartbeats 4000000 in
theorem op_repU {X : Cx} : OpR X (binaryOp .Mult) (rRepU X.K) := by
  intro pins st σ H x y v u Q I rx ry want
  obtain ⟨a, n, z, rfl, rfl, seq, low, most, q⟩ := want
  by_cases h1 : n = 1
  · subst h1
    cases rx
    obtain ⟨tk, rfl⟩ := ry
    obtain ⟨vals, rel, ⟨⟨cl, dict, data, slots⟩, found, isT, m, isS⟩, small⟩ := I.tuple seq
    simp only at isT isS
    subst isT isS
    refine wpAny_binaryOp_repeat_ref (T := "tuple") (U := "int") (by decide) ⟨_, found, rfl⟩ (fun s2 => typeIs_int s2 ((1 : Nat) : Int) tk)
      noFill_tuple_mul F.fills_int_mul F.slot_int_rmul
      repeat_tuple F.slot_int_index.lookup ?_
    refine call_meets F.slot_int_rmul (typeIs_int st ((1 : Nat) : Int) tk) F.entry_int_rmul (F.args_int_rmul_2 _ _)
      (int_rmul_tuple ((1 : Nat) : Int) tk a vals.toArray m dict slots) ⟨found, rfl, ⟨_, found, rfl⟩, ?_⟩
    refine call_meets F.slot_tuple_mul ⟨_, found, rfl⟩ F.entry_tuple_mul
      (F.args_tuple_mul_2 _ _) (mul_one a vals.toArray m dict slots tk) ⟨found, ?_⟩
    exact ⟨.ref a, H, I, rfl, q a H (Same.refl H) seq⟩
  · refine op_repW pins st σ H _ _ v u Q I rx ry ⟨a, n, z, rfl, rfl, seq, by omega, most, fun b hb => ?_⟩
    exact q b _ (same_new hb) (.inl (.inl upd_same))
end My

/-! set(list of ints), to be sorted -/
namespace My
open PySem PySem.Spec PyProof.Rows L2
abbrev nset (w : World) : Obj := { cls := .type "set", dict := none, data := .set #[] 0 (.fresh 0 0 (!w.params.followText "set-order")) }
section
variable {P : Program} {w : World} {A : Around} {E : Value → Shared → Prop} {s : Shared}
set_option maxHeartbeats 4000000 in
theorem set_of_list {l : Addr} {xs : Array Value} (ns : List Int) {Q : Value → Shared → Prop} (calm : A.handled = none) (atL : s.heap.IsList l xs) (areI : IntsAre xs.toList ns) (few : ns.length + 1 < scanBound)
    (go : ∀ (h2 : Heap) (tk c : Nat), SetR w h2 s.heap.objs.size (fun j => decide (j ∈ ns)) c → c ≤ ns.length → (∀ b o, s.heap.get? b = some o → h2.get? b = some o) → Q (.ref s.heap.objs.size) { s with heap := h2, toks := tk }) :
    wpAny (model P w) A (call (.type "set") [.ref l]) Q E s := by
  have size : xs.size = ns.length := (Array.length_toList (xs := xs)).symm.trans (IntsAre.length areI)
  obtain ⟨mc, mt, mr⟩ := F.called_set.mro
  have made := F.called_set.made
  have below := F.called_set.sub
  refine wpAny_call (codeAny_of_tree (?_ : wpAny _ _ (callAny (.type "set") _) _ _ _))
  refine wpAny_pure ⟨Code.quiet_builtin _ (by decide +kernel), codeAny_builtin F.entry_type_call ?_⟩
  rw [Around.under_plain (weight_type_call_type "set" [.ref l] []) rfl]
  have noType := F.called_set.notType
  have creates := F.called_set.canCreate
  have checked := F.typeCall_set_1 (.ref l)
  repeat any_goals first | assumption | wp_step
  refine codeAny_mono (code_set_led1 (.ref l) (E := E) (Q₁ := fun x s1 => x = .ref s.heap.objs.size ∧ s1 = { s with heap := s.heap.push (nset w) }) ⟨rfl, rfl⟩) fun res s1 told => ?_
  match res, told with
  | .error e, told => exact told
  | .ok (.ret x), told =>
    obtain ⟨rfl, rfl⟩ := told
    have atS : (s.heap.push (nset w)).get? s.heap.objs.size = some (nset w) := Heap.get?_push_size _ rfl
    have isSet : Shared.TypeIs { s with heap := s.heap.push (nset w) } (.ref s.heap.objs.size) "set" := ⟨_, atS, rfl⟩
    have look := F.called_set.init.lookup
    have bound := F.called_set.init.bind (.ref s.heap.objs.size)
    repeat any_goals first | assumption | wp_step
    refine codeAny_mono (codeAny_call_builtin (R := wants (fun r s2 => r = .none ∧ ∃ h2 tk c, s2 = { s with heap := h2, toks := tk } ∧ SetR w h2 s.heap.objs.size (fun j => decide (j ∈ ns)) c ∧ c ≤ ns.length ∧
      ∀ b o, s.heap.get? b = some o → h2.get? b = some o) E) F.called_set.init.plain F.entry_set_init (check_set_init_1 isSet ?_)) fun res2 s2 told2 => ?_
    · obtain ⟨ol, atO, isL, nl, dat⟩ := atL
      obtain ⟨oc, od, odat, osl⟩ := ol
      simp only at isL dat
      subst isL dat
      have atO2 : (s.heap.push (nset w)).get? l = some { cls := .type "list", dict := od, data := .seq xs nl, slots := osl } := Heap.get?_push_of_some _ atO
      have noSet := F.sub_list_set
      have noFrozen := F.sub_list_frozenset
      have noDict : (Value.type "list" == Value.type "dict") = false := by decide
      have atL2 : (s.heap.push (nset w)).IsList l xs := ⟨_, atO2, rfl, nl, rfl⟩
      unfold Builtin.«set.__init__» Builtin.Frozenset.updateFrom noKeywords
      generalize e0 : pyIter = iter0
      wp_walk
      subst e0
      refine wpAny_pyIter_list atL2 (wpAny_bind (wpAny_runValue ?_))
      have ll : l < s.heap.objs.size := Heap.lt_size atO
      have calm3 : A.in1.in1.in1.handled = none := by simp [calm]
      have sz : (s.heap.push (nset w)).objs.size = s.heap.objs.size + 1 := Heap.size_push ..
      have neI : l ≠ (s.heap.push (nset w)).objs.size := by rw [sz]; exact Nat.ne_of_lt (Nat.lt_succ_of_lt ll)
      have neS : s.heap.objs.size ∉ [(s.heap.push (nset w)).objs.size, l] := by
        simp only [List.mem_cons, List.not_mem_nil, or_false, not_or]
        rw [sz]
        exact ⟨Nat.ne_of_lt (Nat.lt_succ_self _), fun z => Nat.ne_of_lt ll z.symm⟩
      have vals : ∀ (i : Nat) (v : Value), xs[i]? = some v → ∃ k t, ns[i]? = some k ∧ v = .int k t := fun i v hv => by
        have hi : i < ns.length := size ▸ (Array.getElem?_eq_some_iff.mp hv).1
        obtain ⟨t, e⟩ := IntsAre.int_at areI i v (Array.getElem?_toList.trans hv)
        refine ⟨ns[i], t, List.getElem?_eq_getElem hi, e.trans ?_⟩
        rw [List.getD_eq_getElem?_getD, List.getElem?_eq_getElem hi]
        rfl
      refine set_update_ints ((Walks.list calm3 _ l neI xs).toS) s.heap.objs.size neS ns size few vals (xs.size - 0) 0 _ (by omega) (Nat.zero_le _) ⟨⟨_, Heap.get?_push_size _ rfl, rfl, rfl⟩, atL2.push _⟩
        ⟨0, Nat.le_refl 0, setR_new_at (Heap.get?_push_of_some _ atS)⟩ fun s3 c3 mv le3 R3 => ?_
      obtain ⟨h3, g3, d3, tk3, os3⟩ := s3
      obtain rfl : g3 = s.gens := mv.gens
      obtain rfl : d3 = s.drawn := mv.drawn
      obtain rfl : os3 = s.os := mv.os
      show wpAny _ _ _ _ _ _
      refine wpAny_pure ?_
      show wpAny _ _ (ret Value.none) _ _ _
      refine wpAny_pure ⟨rfl, h3, tk3, c3, rfl, R3, size ▸ le3, fun b o e => ?_⟩
      have lb : b < s.heap.objs.size := Heap.lt_size e
      refine mv.heap b o ?_ (Heap.get?_push_of_some _ (Heap.get?_push_of_some _ e))
      simp only [List.mem_cons, List.not_mem_nil, or_false, not_or]
      rw [sz]
      exact ⟨Nat.ne_of_lt lb, Nat.ne_of_lt (Nat.lt_succ_of_lt lb)⟩
    · match res2, told2 with
      | .error e, told2 => exact told2
      | .ok (.ret r), told2 =>
        obtain ⟨rfl, h2, tk, c, rfl, R2, le2, keeps⟩ := told2
        repeat any_goals first | assumption | wp_step
        exact go _ _ _ R2 le2 keeps
end
/-- set(xs) of a list of ints -/
def rSetL (K : PySem.W.Frag) (w : World) : List V → Hp → VK → Prop := fun vs H Q => ∃ (l : Addr) (ns : List Int), vs = [V.ref l] ∧ SqL K H l (ns.map V.int) ∧ ns.length ≤ 1000 ∧
  ∀ p c, H p = none → c ≤ ns.length → Q (.ref p) (upd H p (SetO w p (fun j => decide (j ∈ ns)) c))
theorem cr_setL {X : Cx} (calm : X.calm = true) : CallR X (.type "set") (rSetL X.K X.w) := by
  intro pins s σ H vs us Q I r want
  obtain ⟨l, ns, rfl, hl, few, q⟩ := want
  rw [Vals.ref1 r]
  obtain ⟨its, rv, pl, _⟩ := I.list hl
  refine set_of_list ns (I.ok.hd calm) pl.isList (by simpa using ints_of_vals rv) (by unfold scanBound; omega) fun h2 tk c R le keeps => ?_
  exact ⟨.ref s.heap.objs.size, _, I.laid (t' := tk) keeps (Nat.le_refl _) (setO_new R), rfl, q _ c (I.hok.fresh (Nat.le_refl _)) le⟩
end My

/-! t * k of any tuple and any small k -/
namespace My
open PySem PySem.Spec PyProof.Rows L2
theorem wp_yes {α : Type} {M : Model} {A : Around} {c : Prop} [Decidable c] {x y : Sem α} {Q : α → Shared → Prop} {E : Value → Shared → Prop} {s : Shared} (h : c) (k : wpAny M A x Q E s) : wpAny M A (if c then x else y) Q E s := by
  rw [if_pos h]
  exact k
theorem wp_no {α : Type} {M : Model} {A : Around} {c : Prop} [Decidable c] {x y : Sem α} {Q : α → Shared → Prop} {E : Value → Shared → Prop} {s : Shared} (h : ¬ c) (k : wpAny M A y Q E s) : wpAny M A (if c then x else y) Q E s := by
  rw [if_neg h]
  exact k
set_option maxHeartbeats 4000000 in
theorem mul_nil (a : Addr) (m : Nat) (dict : Option Addr) (slots : Array (Option Value)) (x : Int) (u : Tok) (c0 : (decide (x < -(2 ^ 63)) || decide (x ≥ 2 ^ 63)) = false) :
    Meets (Builtin.«tuple.__mul__» ⟨[.ref a, .int x u], []⟩) (fun _ R s => s.heap.get? a = some { cls := .type "tuple", dict := dict, data := .seq #[] m, slots := slots } ∧
      R (.ok (.ret (.ref a))) s) :=
  .of_wp fun prog w A R s h => by
    obtain ⟨hp, g, d, tk, os⟩ := s
    obtain ⟨at0, h⟩ := h
    have f1 := AutoSeq1.idx_int
    wp_walk using wpAny_loadPart' at0
    repeat first
      | (refine wpAny_ite_false (decide_eq_false (by rw [c0]; exact Bool.false_ne_true)) ?_; wp_walk using wpAny_loadPart' at0)
      | exact ⟨_, rfl, h⟩
set_option maxHeartbeats 4000000 in
theorem mul_zero (a : Addr) (items : Array Value) (m : Nat) (dict : Option Addr) (slots : Array (Option Value)) (u : Tok) (c1 : items.isEmpty = false) :
    Meets (Builtin.«tuple.__mul__» ⟨[.ref a, .int 0 u], []⟩) (fun _ R s => s.heap.get? a = some { cls := .type "tuple", dict := dict, data := .seq items m, slots := slots } ∧
      R (.ok (.ret (Value.ref s.heap.objs.size))) { s with heap := s.heap.push { cls := Value.type "tuple", data := Data.seq #[] }, toks := s.toks }) :=
  .of_wp fun prog w A R s h => by
    obtain ⟨hp, g, d, tk, os⟩ := s
    obtain ⟨at0, h⟩ := h
    have f1 := AutoSeq1.idx_int
    wp_walk using wpAny_loadPart' at0
    repeat first
      | (refine wpAny_ite_false (decide_eq_false (by rw [c1]; decide)) ?_; wp_walk using wpAny_loadPart' at0)
      | exact ⟨_, rfl, h⟩
def rRepA (K : PySem.W.Frag) : R2 := fun x y H Q => ∃ (a : Addr) (n : Nat) (xs : List V), x = .ref a ∧ y = .int (n : Int) ∧ SqT K H a xs ∧ n ≤ 1000 ∧ xs.length ≤ 1000 ∧
  ∀ b H', Same H H' → SqT K H' b (List.replicate n xs).flatten → Q (.ref b) H'
theorem flat_nil {α : Type} : ∀ n : Nat, (List.replicate n ([] : List α)).flatten = []
  | 0 => rfl
  | n + 1 => by rw [List.replicate_succ, List.flatten_cons, flat_nil n]; rfl
set_option maxHeartbeats 4000000 in
theorem op_repA {X : Cx} : OpR X (binaryOp .Mult) (rRepA X.K) := by
  intro pins st σ H x y v u Q I rx ry want
  obtain ⟨a, n, xs, rfl, rfl, seq, few, short, q⟩ := want
  by_cases big : xs ≠ [] ∧ 2 ≤ n
  · refine op_repT pins st σ H _ _ v u Q I rx ry ⟨a, (n : Int), xs, rfl, rfl, seq, big.1, by have := big.2; omega, by omega, short, fun b hb => ?_⟩
    have e : ((n : Int)).toNat = n := by omega
    rw [e]
    exact q b _ (same_new hb) (.inl (.inl upd_same))
  cases rx
  obtain ⟨tk, rfl⟩ := ry
  obtain ⟨vals, rel, ⟨⟨cl, dict, data, slots⟩, found, isT, m, isS⟩, small⟩ := I.tuple seq
  simp only at isT isS
  subst isT isS
  have bound : (decide ((n : Int) < -(2 ^ 63)) || decide ((n : Int) ≥ 2 ^ 63)) = false := by
    rw [decide_eq_false (by omega), decide_eq_false (by omega)]
    rfl
  refine wpAny_binaryOp_repeat_ref (T := "tuple") (U := "int") (by decide) ⟨_, found, rfl⟩ (fun s2 => typeIs_int s2 (n : Int) tk)
    noFill_tuple_mul F.fills_int_mul F.slot_int_rmul
    repeat_tuple F.slot_int_index.lookup ?_
  refine call_meets F.slot_int_rmul (typeIs_int st (n : Int) tk) F.entry_int_rmul (F.args_int_rmul_2 _ _)
    (int_rmul_tuple (n : Int) tk a vals.toArray m dict slots) ⟨found, rfl, ⟨_, found, rfl⟩, ?_⟩
  by_cases hx : xs = []
  · subst hx
    cases rel
    refine call_meets F.slot_tuple_mul ⟨_, found, rfl⟩ F.entry_tuple_mul (F.args_tuple_mul_2 _ _) (mul_nil a m dict slots (n : Int) tk bound) ⟨found, ?_⟩
    exact ⟨.ref a, H, I, rfl, q a H (Same.refl H) (by rw [flat_nil]; exact seq)⟩
  · have hn : n = 0 ∨ n = 1 := by
      rcases Nat.lt_or_ge n 2 with h | h
      · omega
      · exact absurd ⟨hx, h⟩ big
    rcases hn with rfl | rfl
    · have full : vals.toArray.isEmpty = false := by
        cases rel with
        | nil => exact absurd rfl hx
        | cons _ _ => rfl
      refine call_meets F.slot_tuple_mul ⟨_, found, rfl⟩ F.entry_tuple_mul (F.args_tuple_mul_2 _ _) (mul_zero a vals.toArray m dict slots tk full) ⟨found, ?_⟩
      refine ⟨.ref st.heap.objs.size, _, I.laid (t' := st.toks) (o := .tup []) (fun b ob q => Heap.get?_push_of_some _ q) (Nat.le_refl _) ?_, rfl, q _ _ (same_new (I.hok.fresh (Nat.le_refl _))) (.inl (.inl upd_same))⟩
      exact ⟨Nat.zero_le _, [], .nil, IsTup.new _ _⟩
    · refine call_meets F.slot_tuple_mul ⟨_, found, rfl⟩ F.entry_tuple_mul (F.args_tuple_mul_2 _ _) (mul_one a vals.toArray m dict slots tk) ⟨found, ?_⟩
      exact ⟨.ref a, H, I, rfl, q a H (Same.refl H) (by simpa using seq)⟩
end My

namespace My
open PySem PySem.Spec PyProof.Rows L2
def top (i : Nat) : Stmt := PySem.Challenge.pw_stepsound_k09_whole_maps_joined.main.body.getD i (.Pass ⟨0, 0, 0, 0⟩)
abbrev s_is_integer : Stmt := top 7
abbrev s_is_between : Stmt := top 8
abbrev s_is_pair : Stmt := top 9
abbrev s_is_code : Stmt := top 10
abbrev s_is_place : Stmt := top 11
abbrev s_is_state : Stmt := top 12
abbrev s_need_place : Stmt := top 13
abbrev s_need_state : Stmt := top 14
abbrev s_need_times : Stmt := top 15
abbrev s_need_row : Stmt := top 16
abbrev s_need_few_states : Stmt := top 17
abbrev s_rounded : Stmt := top 19
abbrev s_limited : Stmt := top 20
abbrev s_change_at : Stmt := top 21
abbrev s_faded : Stmt := top 22
abbrev s_state_behind : Stmt := top 23
abbrev s_state_behind_row : Stmt := top 24
abbrev s_need_coder : Stmt := top 26
abbrev s_first_fault : Stmt := top 27
abbrev s_fault_of_steps : Stmt := top 28
abbrev s_fault_of_moves : Stmt := top 29
abbrev s_is_tuple_of : Stmt := top 30
abbrev s_is_move : Stmt := top 31
abbrev s_is_fade : Stmt := top 32
abbrev s_changes_along : Stmt := top 34
abbrev s_level_behind : Stmt := top 35
abbrev s_limits_behind : Stmt := top 36
abbrev s_levels_behind : Stmt := top 37
abbrev s_row_map : Stmt := top 39
abbrev s_last_of : Stmt := top 41
abbrev s_need_coder_and_row : Stmt := top 42
abbrev s_state_behind_times : Stmt := top 43
abbrev s_states_until_settled : Stmt := top 44
abbrev s_states_until_place_rests : Stmt := top 45
abbrev s_levels_until_settled : Stmt := top 46
abbrev s_level_behind_once : Stmt := top 47
abbrev s_law_begun : Stmt := top 49
abbrev s_law_next : Stmt := top 50
abbrev s_law_coder : Stmt := top 51
abbrev s_law_row : Stmt := top 52
abbrev s_law : Stmt := top 53
theorem sc_is_integer : FnScope ["thing"] ["thing"] (defScope s_is_integer) := ⟨rfl, rfl, rfl, by decide +kernel, rfl, by decide +kernel, by decide +kernel⟩
theorem sc_is_between : FnScope ["thing", "least", "most"] ["thing", "least", "most"] (defScope s_is_between) := ⟨rfl, rfl, rfl, by decide +kernel, rfl, by decide +kernel, by decide +kernel⟩
theorem sc_is_pair : FnScope ["thing"] ["thing"] (defScope s_is_pair) := ⟨rfl, rfl, rfl, by decide +kernel, rfl, by decide +kernel, by decide +kernel⟩
theorem sc_is_code : FnScope ["coder", "thing"] ["coder", "thing"] (defScope s_is_code) := ⟨rfl, rfl, rfl, by decide +kernel, rfl, by decide +kernel, by decide +kernel⟩
theorem sc_is_place : FnScope ["coder", "thing"] ["coder", "thing"] (defScope s_is_place) := ⟨rfl, rfl, rfl, by decide +kernel, rfl, by decide +kernel, by decide +kernel⟩
theorem sc_is_state : FnScope ["coder", "thing"] ["coder", "thing"] (defScope s_is_state) := ⟨rfl, rfl, rfl, by decide +kernel, rfl, by decide +kernel, by decide +kernel⟩
theorem sc_need_place : FnScope ["coder", "thing"] ["coder", "thing"] (defScope s_need_place) := ⟨rfl, rfl, rfl, by decide +kernel, rfl, by decide +kernel, by decide +kernel⟩
theorem sc_need_state : FnScope ["coder", "thing"] ["coder", "thing"] (defScope s_need_state) := ⟨rfl, rfl, rfl, by decide +kernel, rfl, by decide +kernel, by decide +kernel⟩
theorem sc_need_times : FnScope ["thing"] ["thing"] (defScope s_need_times) := ⟨rfl, rfl, rfl, by decide +kernel, rfl, by decide +kernel, by decide +kernel⟩
theorem sc_need_row : FnScope ["coder", "thing", "index", "code"] ["coder", "thing"] (defScope s_need_row) := ⟨rfl, rfl, rfl, by decide +kernel, rfl, by decide +kernel, by decide +kernel⟩
theorem sc_need_few_states : FnScope ["coder", "most", "low", "high", "steps"] ["coder", "most"] (defScope s_need_few_states) := ⟨rfl, rfl, rfl, by decide +kernel, rfl, by decide +kernel, by decide +kernel⟩
theorem sc_rounded : FnScope ["number", "divisor"] ["number", "divisor"] (defScope s_rounded) := ⟨rfl, rfl, rfl, by decide +kernel, rfl, by decide +kernel, by decide +kernel⟩
theorem sc_limited : FnScope ["number", "least", "most"] ["number", "least", "most"] (defScope s_limited) := ⟨rfl, rfl, rfl, by decide +kernel, rfl, by decide +kernel, by decide +kernel⟩
theorem sc_change_at : FnScope ["coder", "code", "place", "share"] ["coder", "code", "place"] (defScope s_change_at) := ⟨rfl, rfl, rfl, by decide +kernel, rfl, by decide +kernel, by decide +kernel⟩
theorem sc_faded : FnScope ["level", "fade"] ["level", "fade"] (defScope s_faded) := ⟨rfl, rfl, rfl, by decide +kernel, rfl, by decide +kernel, by decide +kernel⟩
theorem sc_state_behind : FnScope ["coder", "state", "code", "low", "high", "steps", "moves", "fade", "level", "place", "turn", "moved"] ["coder", "state", "code"] (defScope s_state_behind) := ⟨rfl, rfl, rfl, by decide +kernel, rfl, by decide +kernel, by decide +kernel⟩
theorem sc_state_behind_row : FnScope ["coder", "row", "state", "now", "code"] ["coder", "row", "state"] (defScope s_state_behind_row) := ⟨rfl, rfl, rfl, by decide +kernel, rfl, by decide +kernel, by decide +kernel⟩
theorem sc_need_coder : FnScope ["thing", "fault"] ["thing"] (defScope s_need_coder) := ⟨rfl, rfl, rfl, by decide +kernel, rfl, by decide +kernel, by decide +kernel⟩
theorem sc_first_fault : FnScope ["thing", "low", "high", "steps", "moves", "fade", "fault"] ["thing"] (defScope s_first_fault) := ⟨rfl, rfl, rfl, by decide +kernel, rfl, by decide +kernel, by decide +kernel⟩
theorem sc_fault_of_steps : FnScope ["steps", "index", "step"] ["steps"] (defScope s_fault_of_steps) := ⟨rfl, rfl, rfl, by decide +kernel, rfl, by decide +kernel, by decide +kernel⟩
theorem sc_fault_of_moves : FnScope ["moves", "index", "move"] ["moves"] (defScope s_fault_of_moves) := ⟨rfl, rfl, rfl, by decide +kernel, rfl, by decide +kernel, by decide +kernel⟩
theorem sc_is_tuple_of : FnScope ["thing", "least", "most"] ["thing", "least", "most"] (defScope s_is_tuple_of) := ⟨rfl, rfl, rfl, by decide +kernel, rfl, by decide +kernel, by decide +kernel⟩
theorem sc_is_move : FnScope ["thing"] ["thing"] (defScope s_is_move) := ⟨rfl, rfl, rfl, by decide +kernel, rfl, by decide +kernel, by decide +kernel⟩
theorem sc_is_fade : FnScope ["thing"] ["thing"] (defScope s_is_fade) := ⟨rfl, rfl, rfl, by decide +kernel, rfl, by decide +kernel, by decide +kernel⟩
theorem sc_changes_along : FnScope ["coder", "row", "place", "last", "changes", "now", "code"] ["coder", "row", "place"] (defScope s_changes_along) := ⟨rfl, rfl, rfl, by decide +kernel, rfl, by decide +kernel, by decide +kernel⟩
theorem sc_level_behind : FnScope ["coder", "changes", "level", "low", "high", "fade", "now", "change"] ["coder", "changes", "level"] (defScope s_level_behind) := ⟨rfl, rfl, rfl, by decide +kernel, rfl, by decide +kernel, by decide +kernel⟩
theorem sc_limits_behind : FnScope ["coder", "changes", "low", "high"] ["coder", "changes"] (defScope s_limits_behind) := ⟨rfl, rfl, rfl, by decide +kernel, rfl, by decide +kernel, by decide +kernel⟩
theorem sc_levels_behind : FnScope ["coder", "changes", "low", "high", "fade", "total", "least", "most", "left", "led", "change", "indexes", "behind", "level", "index"] ["coder", "changes"] (defScope s_levels_behind) := ⟨rfl, rfl, rfl, by decide +kernel, rfl, by decide +kernel, by decide +kernel⟩
theorem sc_row_map : FnScope ["coder", "row", "place", "changes", "behind"] ["coder", "row", "place"] (defScope s_row_map) := ⟨rfl, rfl, rfl, by decide +kernel, rfl, by decide +kernel, by decide +kernel⟩
theorem sc_last_of : FnScope ["coder", "row", "times", "state"] ["coder", "row", "times", "state"] (defScope s_last_of) := ⟨rfl, rfl, rfl, by decide +kernel, rfl, by decide +kernel, by decide +kernel⟩
theorem sc_need_coder_and_row : FnScope ["coder", "row"] ["coder", "row"] (defScope s_need_coder_and_row) := ⟨rfl, rfl, rfl, by decide +kernel, rfl, by decide +kernel, by decide +kernel⟩
theorem sc_state_behind_times : FnScope ["coder", "row", "times", "state", "states"] ["coder", "row", "times", "state"] (defScope s_state_behind_times) := ⟨rfl, rfl, rfl, by decide +kernel, rfl, by decide +kernel, by decide +kernel⟩
theorem sc_states_until_settled : FnScope ["coder", "row", "state", "states", "level", "place", "changes", "behind"] ["coder", "row", "state"] (defScope s_states_until_settled) := ⟨rfl, rfl, rfl, by decide +kernel, rfl, by decide +kernel, by decide +kernel⟩
theorem sc_states_until_place_rests : FnScope ["coder", "row", "state", "states", "behind"] ["coder", "row", "state"] (defScope s_states_until_place_rests) := ⟨rfl, rfl, rfl, by decide +kernel, rfl, by decide +kernel, by decide +kernel⟩
theorem sc_levels_until_settled : FnScope ["coder", "changes", "level", "limits", "levels", "now", "behind"] ["coder", "changes", "level"] (defScope s_levels_until_settled) := ⟨rfl, rfl, rfl, by decide +kernel, rfl, by decide +kernel, by decide +kernel⟩
theorem sc_level_behind_once : FnScope ["coder", "changes", "limits", "level", "total", "least", "most"] ["coder", "changes", "limits", "level"] (defScope s_level_behind_once) := ⟨rfl, rfl, rfl, by decide +kernel, rfl, by decide +kernel, by decide +kernel⟩
theorem sc_law_begun : FnScope ["script", "cell"] ["script"] (defScope s_law_begun) := ⟨rfl, rfl, rfl, by decide +kernel, rfl, by decide +kernel, by decide +kernel⟩
theorem sc_law_next : FnScope ["m", "many", "rest", "k", "cell", "mixed"] ["m", "many"] (defScope s_law_next) := ⟨rfl, rfl, rfl, by decide +kernel, rfl, by decide +kernel, by decide +kernel⟩
theorem sc_law_coder : FnScope ["m", "wide", "places", "codes", "low", "high", "k", "steps", "moves", "fade"] ["m", "wide", "places", "codes"] (defScope s_law_coder) := ⟨rfl, rfl, rfl, by decide +kernel, rfl, by decide +kernel, by decide +kernel⟩
theorem sc_law_row : FnScope ["m", "coder", "many", "k"] ["m", "coder", "many"] (defScope s_law_row) := ⟨rfl, rfl, rfl, by decide +kernel, rfl, by decide +kernel, by decide +kernel⟩
theorem sc_law : FnScope ["script", "m", "turn", "coder", "one", "two", "times", "place", "first", "middle", "second", "last", "level", "due", "found", "behind", "there"] ["script"] (defScope s_law) := ⟨rfl, rfl, rfl, by decide +kernel, rfl, by decide +kernel, by decide +kernel⟩
structure Txt0 (K : PySem.W.Frag) (mg : Str → Option Value) where
  f_is_integer : Addr
  d_is_integer : FuncData
  F_is_integer : Fun K "is_integer" "is_integer" s_is_integer f_is_integer d_is_integer
  b_is_integer : Binds K d_is_integer ["thing"] []
  g_is_integer : mg "is_integer" = some (.ref f_is_integer)
  f_is_between : Addr
  d_is_between : FuncData
  F_is_between : Fun K "is_between" "is_between" s_is_between f_is_between d_is_between
  b_is_between : Binds K d_is_between ["thing", "least", "most"] []
  g_is_between : mg "is_between" = some (.ref f_is_between)
  f_is_pair : Addr
  d_is_pair : FuncData
  F_is_pair : Fun K "is_pair" "is_pair" s_is_pair f_is_pair d_is_pair
  b_is_pair : Binds K d_is_pair ["thing"] []
  g_is_pair : mg "is_pair" = some (.ref f_is_pair)
  f_is_code : Addr
  d_is_code : FuncData
  F_is_code : Fun K "is_code" "is_code" s_is_code f_is_code d_is_code
  b_is_code : Binds K d_is_code ["coder", "thing"] []
  g_is_code : mg "is_code" = some (.ref f_is_code)
  f_is_place : Addr
  d_is_place : FuncData
  F_is_place : Fun K "is_place" "is_place" s_is_place f_is_place d_is_place
  b_is_place : Binds K d_is_place ["coder", "thing"] []
  g_is_place : mg "is_place" = some (.ref f_is_place)
  f_is_state : Addr
  d_is_state : FuncData
  F_is_state : Fun K "is_state" "is_state" s_is_state f_is_state d_is_state
  b_is_state : Binds K d_is_state ["coder", "thing"] []
  g_is_state : mg "is_state" = some (.ref f_is_state)
  f_need_place : Addr
  d_need_place : FuncData
  F_need_place : Fun K "need_place" "need_place" s_need_place f_need_place d_need_place
  b_need_place : Binds K d_need_place ["coder", "thing"] []
  g_need_place : mg "need_place" = some (.ref f_need_place)
  f_need_state : Addr
  d_need_state : FuncData
  F_need_state : Fun K "need_state" "need_state" s_need_state f_need_state d_need_state
  b_need_state : Binds K d_need_state ["coder", "thing"] []
  g_need_state : mg "need_state" = some (.ref f_need_state)
  f_need_times : Addr
  d_need_times : FuncData
  F_need_times : Fun K "need_times" "need_times" s_need_times f_need_times d_need_times
  b_need_times : Binds K d_need_times ["thing"] []
  g_need_times : mg "need_times" = some (.ref f_need_times)
  f_need_row : Addr
  d_need_row : FuncData
  F_need_row : Fun K "need_row" "need_row" s_need_row f_need_row d_need_row
  b_need_row : Binds K d_need_row ["coder", "thing"] []
  g_need_row : mg "need_row" = some (.ref f_need_row)
structure Txt1 (K : PySem.W.Frag) (mg : Str → Option Value) extends Txt0 K mg where
  f_need_few_states : Addr
  d_need_few_states : FuncData
  F_need_few_states : Fun K "need_few_states" "need_few_states" s_need_few_states f_need_few_states d_need_few_states
  b_need_few_states : Binds K d_need_few_states ["coder", "most"] []
  g_need_few_states : mg "need_few_states" = some (.ref f_need_few_states)
  f_rounded : Addr
  d_rounded : FuncData
  F_rounded : Fun K "rounded" "rounded" s_rounded f_rounded d_rounded
  b_rounded : Binds K d_rounded ["number", "divisor"] []
  g_rounded : mg "rounded" = some (.ref f_rounded)
  f_limited : Addr
  d_limited : FuncData
  F_limited : Fun K "limited" "limited" s_limited f_limited d_limited
  b_limited : Binds K d_limited ["number", "least", "most"] []
  g_limited : mg "limited" = some (.ref f_limited)
  f_change_at : Addr
  d_change_at : FuncData
  F_change_at : Fun K "change_at" "change_at" s_change_at f_change_at d_change_at
  b_change_at : Binds K d_change_at ["coder", "code", "place"] []
  g_change_at : mg "change_at" = some (.ref f_change_at)
  f_faded : Addr
  d_faded : FuncData
  F_faded : Fun K "faded" "faded" s_faded f_faded d_faded
  b_faded : Binds K d_faded ["level", "fade"] []
  g_faded : mg "faded" = some (.ref f_faded)
  f_state_behind : Addr
  d_state_behind : FuncData
  F_state_behind : Fun K "state_behind" "state_behind" s_state_behind f_state_behind d_state_behind
  b_state_behind : Binds K d_state_behind ["coder", "state", "code"] []
  g_state_behind : mg "state_behind" = some (.ref f_state_behind)
  f_state_behind_row : Addr
  d_state_behind_row : FuncData
  F_state_behind_row : Fun K "state_behind_row" "state_behind_row" s_state_behind_row f_state_behind_row d_state_behind_row
  b_state_behind_row : Binds K d_state_behind_row ["coder", "row", "state"] []
  g_state_behind_row : mg "state_behind_row" = some (.ref f_state_behind_row)
  f_need_coder : Addr
  d_need_coder : FuncData
  F_need_coder : Fun K "need_coder" "need_coder" s_need_coder f_need_coder d_need_coder
  b_need_coder : Binds K d_need_coder ["thing"] []
  g_need_coder : mg "need_coder" = some (.ref f_need_coder)
  f__first_fault : Addr
  d__first_fault : FuncData
  F__first_fault : Fun K "_first_fault" "_first_fault" s_first_fault f__first_fault d__first_fault
  b__first_fault : Binds K d__first_fault ["thing"] []
  g__first_fault : mg "_first_fault" = some (.ref f__first_fault)
  f__fault_of_steps : Addr
  d__fault_of_steps : FuncData
  F__fault_of_steps : Fun K "_fault_of_steps" "_fault_of_steps" s_fault_of_steps f__fault_of_steps d__fault_of_steps
  b__fault_of_steps : Binds K d__fault_of_steps ["steps"] []
  g__fault_of_steps : mg "_fault_of_steps" = some (.ref f__fault_of_steps)
structure Txt2 (K : PySem.W.Frag) (mg : Str → Option Value) extends Txt1 K mg where
  f__fault_of_moves : Addr
  d__fault_of_moves : FuncData
  F__fault_of_moves : Fun K "_fault_of_moves" "_fault_of_moves" s_fault_of_moves f__fault_of_moves d__fault_of_moves
  b__fault_of_moves : Binds K d__fault_of_moves ["moves"] []
  g__fault_of_moves : mg "_fault_of_moves" = some (.ref f__fault_of_moves)
  f__is_tuple_of : Addr
  d__is_tuple_of : FuncData
  F__is_tuple_of : Fun K "_is_tuple_of" "_is_tuple_of" s_is_tuple_of f__is_tuple_of d__is_tuple_of
  b__is_tuple_of : Binds K d__is_tuple_of ["thing", "least", "most"] []
  g__is_tuple_of : mg "_is_tuple_of" = some (.ref f__is_tuple_of)
  f__is_move : Addr
  d__is_move : FuncData
  F__is_move : Fun K "_is_move" "_is_move" s_is_move f__is_move d__is_move
  b__is_move : Binds K d__is_move ["thing"] []
  g__is_move : mg "_is_move" = some (.ref f__is_move)
  f__is_fade : Addr
  d__is_fade : FuncData
  F__is_fade : Fun K "_is_fade" "_is_fade" s_is_fade f__is_fade d__is_fade
  b__is_fade : Binds K d__is_fade ["thing"] []
  g__is_fade : mg "_is_fade" = some (.ref f__is_fade)
  f_changes_along : Addr
  d_changes_along : FuncData
  F_changes_along : Fun K "changes_along" "changes_along" s_changes_along f_changes_along d_changes_along
  b_changes_along : Binds K d_changes_along ["coder", "row", "place"] []
  g_changes_along : mg "changes_along" = some (.ref f_changes_along)
  f_level_behind : Addr
  d_level_behind : FuncData
  F_level_behind : Fun K "level_behind" "level_behind" s_level_behind f_level_behind d_level_behind
  b_level_behind : Binds K d_level_behind ["coder", "changes", "level"] []
  g_level_behind : mg "level_behind" = some (.ref f_level_behind)
  f_limits_behind : Addr
  d_limits_behind : FuncData
  F_limits_behind : Fun K "limits_behind" "limits_behind" s_limits_behind f_limits_behind d_limits_behind
  b_limits_behind : Binds K d_limits_behind ["coder", "changes"] []
  g_limits_behind : mg "limits_behind" = some (.ref f_limits_behind)
  f_levels_behind : Addr
  d_levels_behind : FuncData
  F_levels_behind : Fun K "levels_behind" "levels_behind" s_levels_behind f_levels_behind d_levels_behind
  b_levels_behind : Binds K d_levels_behind ["coder", "changes"] []
  g_levels_behind : mg "levels_behind" = some (.ref f_levels_behind)
  f_row_map : Addr
  d_row_map : FuncData
  F_row_map : Fun K "row_map" "row_map" s_row_map f_row_map d_row_map
  b_row_map : Binds K d_row_map ["coder", "row", "place"] []
  g_row_map : mg "row_map" = some (.ref f_row_map)
  f_last_of : Addr
  d_last_of : FuncData
  F_last_of : ∃ q, FunD K "last_of" "last_of" (defArgs s_last_of) (defBody s_last_of) (defScope s_last_of) [] [("state", V.ref q)] f_last_of d_last_of
  kp_last_of : PySem.W.keepIn K (.ref f_last_of) = true
  q_last_of : Addr
  qs_last_of : ∀ H, SqT K H q_last_of [.int 0, .int 0]
  e_last_of : List Value
  ev_last_of : Vals [V.ref q_last_of] e_last_of
  b_last_of : Binds K d_last_of ["coder", "row", "times", "state"] e_last_of
  k_last_of : KBn K d_last_of ["coder", "row", "times", "state"] 3 ["state"] (fun us ws => us ++ ws) (fun vs zs => vs ++ zs)
  g_last_of : mg "last_of" = some (.ref f_last_of)
structure Txt3 (K : PySem.W.Frag) (mg : Str → Option Value) extends Txt2 K mg where
  f__need_coder_and_row : Addr
  d__need_coder_and_row : FuncData
  F__need_coder_and_row : Fun K "_need_coder_and_row" "_need_coder_and_row" s_need_coder_and_row f__need_coder_and_row d__need_coder_and_row
  b__need_coder_and_row : Binds K d__need_coder_and_row ["coder", "row"] []
  g__need_coder_and_row : mg "_need_coder_and_row" = some (.ref f__need_coder_and_row)
  f__state_behind_times : Addr
  d__state_behind_times : FuncData
  F__state_behind_times : Fun K "_state_behind_times" "_state_behind_times" s_state_behind_times f__state_behind_times d__state_behind_times
  b__state_behind_times : Binds K d__state_behind_times ["coder", "row", "times", "state"] []
  g__state_behind_times : mg "_state_behind_times" = some (.ref f__state_behind_times)
  f__states_until_settled : Addr
  d__states_until_settled : FuncData
  F__states_until_settled : Fun K "_states_until_settled" "_states_until_settled" s_states_until_settled f__states_until_settled d__states_until_settled
  b__states_until_settled : Binds K d__states_until_settled ["coder", "row", "state"] []
  g__states_until_settled : mg "_states_until_settled" = some (.ref f__states_until_settled)
  f__states_until_place_rests : Addr
  d__states_until_place_rests : FuncData
  F__states_until_place_rests : Fun K "_states_until_place_rests" "_states_until_place_rests" s_states_until_place_rests f__states_until_place_rests d__states_until_place_rests
  b__states_until_place_rests : Binds K d__states_until_place_rests ["coder", "row", "state"] []
  g__states_until_place_rests : mg "_states_until_place_rests" = some (.ref f__states_until_place_rests)
  f__levels_until_settled : Addr
  d__levels_until_settled : FuncData
  F__levels_until_settled : Fun K "_levels_until_settled" "_levels_until_settled" s_levels_until_settled f__levels_until_settled d__levels_until_settled
  b__levels_until_settled : Binds K d__levels_until_settled ["coder", "changes", "level"] []
  g__levels_until_settled : mg "_levels_until_settled" = some (.ref f__levels_until_settled)
  f__level_behind_once : Addr
  d__level_behind_once : FuncData
  F__level_behind_once : Fun K "_level_behind_once" "_level_behind_once" s_level_behind_once f__level_behind_once d__level_behind_once
  b__level_behind_once : Binds K d__level_behind_once ["coder", "changes", "limits", "level"] []
  g__level_behind_once : mg "_level_behind_once" = some (.ref f__level_behind_once)
  f__law_begun : Addr
  d__law_begun : FuncData
  F__law_begun : Fun K "_law_begun" "_law_begun" s_law_begun f__law_begun d__law_begun
  b__law_begun : Binds K d__law_begun ["script"] []
  g__law_begun : mg "_law_begun" = some (.ref f__law_begun)
  f__law_next : Addr
  d__law_next : FuncData
  F__law_next : Fun K "_law_next" "_law_next" s_law_next f__law_next d__law_next
  b__law_next : Binds K d__law_next ["m", "many"] []
  g__law_next : mg "_law_next" = some (.ref f__law_next)
  f__law_coder : Addr
  d__law_coder : FuncData
  F__law_coder : Fun K "_law_coder" "_law_coder" s_law_coder f__law_coder d__law_coder
  b__law_coder : Binds K d__law_coder ["m", "wide", "places", "codes"] []
  g__law_coder : mg "_law_coder" = some (.ref f__law_coder)
  f__law_row : Addr
  d__law_row : FuncData
  F__law_row : Fun K "_law_row" "_law_row" s_law_row f__law_row d__law_row
  b__law_row : Binds K d__law_row ["m", "coder", "many"] []
  g__law_row : mg "_law_row" = some (.ref f__law_row)
structure Txt4 (K : PySem.W.Frag) (mg : Str → Option Value) extends Txt3 K mg where
  f_law : Addr
  d_law : FuncData
  F_law : Fun K "law" "law" s_law f_law d_law
  b_law : Binds K d_law ["script"] []
  g_law : mg "law" = some (.ref f_law)
structure Txt (K : PySem.W.Frag) (mg : Str → Option Value) extends Txt4 K mg where
  z_bool : mg "bool" = none
  z_enumerate : mg "enumerate" = none
  z_int : mg "int" = none
  z_isinstance : mg "isinstance" = none
  z_len : mg "len" = none
  z_list : mg "list" = none
  z_max : mg "max" = none
  z_min : mg "min" = none
  z_range : mg "range" = none
  z_repr : mg "repr" = none
  z_set : mg "set" = none
  z_sorted : mg "sorted" = none
  z_sum : mg "sum" = none
  z_tuple : mg "tuple" = none
  t_MOST_CODES : Tok
  g_MOST_CODES : mg "MOST_CODES" = some (.int 2000 t_MOST_CODES)

end My

namespace My
open PySem PySem.Spec PyProof.Rows L2
/-! ### things and their kinds -/
def tyN : PyData → String
  | .none => "NoneType"
  | .bool _ => "bool"
  | .int _ => "int"
  | .str _ => "str"
  | .list _ => "list"
  | .tuple _ => "tuple"
  | .dict _ => "dict"
def isT : PyData → Bool
  | .tuple _ => true
  | _ => false
def isI : PyData → Bool
  | .int _ => true
  | .bool _ => true
  | _ => false
def isB : PyData → Bool
  | .bool _ => true
  | _ => false
theorem tyx {K : PySem.W.Frag} {H : Hp} {v : V} {d : PyData} (h : Dp K H v d) : TyX K H v (.type (tyN d)) := by
  cases h with
  | non => exact .base .non
  | bl b => exact .base (.bl b)
  | int i => exact .base (.int i)
  | str x => exact .base (.str x)
  | lst h _ =>
    rcases h with (h | ⟨o, h⟩) | ⟨o, its, n, h, hc, _⟩
    · exact .base (.lst h)
    · exact .base (.frz h)
    · exact .kList h hc
  | tup h _ =>
    rcases h with (h | ⟨o, h⟩) | ⟨o, its, n, h, hc, _⟩
    · exact .base (.tup h)
    · exact .fTuple h
    · exact .kTuple h hc
theorem kitI {K : PySem.W.Frag} : ∀ d : PyData, PySem.W.kitOne K (.type (tyN d)) (.type "int") = some (isI d)
  | .none => kit_ty (a := "NoneType") (b := "int") (r := false) (by decide +kernel)
  | .bool _ => kit_ty (a := "bool") (b := "int") (r := true) (by decide +kernel)
  | .int _ => kit_ty (a := "int") (b := "int") (r := true) (by decide +kernel)
  | .str _ => kit_ty (a := "str") (b := "int") (r := false) (by decide +kernel)
  | .list _ => kit_ty (a := "list") (b := "int") (r := false) (by decide +kernel)
  | .tuple _ => kit_ty (a := "tuple") (b := "int") (r := false) (by decide +kernel)
  | .dict _ => kit_ty (a := "dict") (b := "int") (r := false) (by decide +kernel)
theorem kitBo {K : PySem.W.Frag} : ∀ d : PyData, PySem.W.kitOne K (.type (tyN d)) (.type "bool") = some (isB d)
  | .none => kit_ty (a := "NoneType") (b := "bool") (r := false) (by decide +kernel)
  | .bool _ => kit_ty (a := "bool") (b := "bool") (r := true) (by decide +kernel)
  | .int _ => kit_ty (a := "int") (b := "bool") (r := false) (by decide +kernel)
  | .str _ => kit_ty (a := "str") (b := "bool") (r := false) (by decide +kernel)
  | .list _ => kit_ty (a := "list") (b := "bool") (r := false) (by decide +kernel)
  | .tuple _ => kit_ty (a := "tuple") (b := "bool") (r := false) (by decide +kernel)
  | .dict _ => kit_ty (a := "dict") (b := "bool") (r := false) (by decide +kernel)
theorem kitT {K : PySem.W.Frag} : ∀ d : PyData, PySem.W.kitOne K (.type (tyN d)) (.type "tuple") = some (isT d)
  | .none => kit_ty (a := "NoneType") (b := "tuple") (r := false) (by decide +kernel)
  | .bool _ => kit_ty (a := "bool") (b := "tuple") (r := false) (by decide +kernel)
  | .int _ => kit_ty (a := "int") (b := "tuple") (r := false) (by decide +kernel)
  | .str _ => kit_ty (a := "str") (b := "tuple") (r := false) (by decide +kernel)
  | .list _ => kit_ty (a := "list") (b := "tuple") (r := false) (by decide +kernel)
  | .tuple _ => kit_ty (a := "tuple") (b := "tuple") (r := true) (by decide +kernel)
  | .dict _ => kit_ty (a := "dict") (b := "tuple") (r := false) (by decide +kernel)
def btw (d : PyData) (lo hi : Int) : Bool := match d with
  | .int n => decide (lo ≤ n) && decide (n ≤ hi)
  | _ => false
def pairD : PyData → Bool
  | .tuple ds => decide ((ds.length : Int) = 2)
  | _ => false
theorem dpAll_len {K : PySem.W.Frag} {H : Hp} : ∀ {xs : List V} {ds : List PyData}, DpAll K H xs ds → xs.length = ds.length
  | _, _, .nil => rfl
  | _, _, .cons _ t => congrArg (· + 1) (dpAll_len t)
theorem dpAll_get {K : PySem.W.Frag} {H : Hp} : ∀ {xs : List V} {ds : List PyData} {i : Nat} {x : V}, DpAll K H xs ds → xs[i]? = some x → ∃ d, ds[i]? = some d ∧ Dp K H x d
  | _, _, _, _, .nil, h => by simp at h
  | _, _, 0, _, .cons h t, e => by
    simp at e
    subst e
    exact ⟨_, by simp, h⟩
  | _, _, i + 1, x, .cons h t, e => by
    obtain ⟨d, h1, h2⟩ := dpAll_get (i := i) (x := x) t (by simpa using e)
    exact ⟨d, by simpa using h1, h2⟩
theorem dpAll_get' {K : PySem.W.Frag} {H : Hp} {xs : List V} {ds : List PyData} {i : Nat} {d : PyData} (h : DpAll K H xs ds) (e : ds[i]? = some d) : ∃ x, xs[i]? = some x ∧ Dp K H x d := by
  have hl := dpAll_len h
  have hi := (List.getElem?_eq_some_iff.mp e).1
  obtain ⟨d', h1, h2⟩ := dpAll_get (i := i) (x := xs[i]) h (List.getElem?_eq_getElem (by omega))
  rw [e] at h1
  cases h1
  exact ⟨_, List.getElem?_eq_getElem (by omega), h2⟩
mutual
theorem dp_same {K : PySem.W.Frag} {H H' : Hp} (s : Same H H') : ∀ (d : PyData) (v : V), Dp K H v d → Dp K H' v d
  | .none, _, h => by cases h; exact .non
  | .bool _, _, h => by cases h; exact .bl _
  | .int _, _, h => by cases h; exact .int _
  | .str _, _, h => by cases h; exact .str _
  | .list ds, _, h => by
    cases h with
    | lst a b => exact .lst (s.seq a) (dpAll_same s ds _ b)
  | .tuple ds, _, h => by
    cases h with
    | tup a b => exact .tup (same_tup s a) (dpAll_same s ds _ b)
  | .dict _, _, h => by cases h
theorem dpAll_same {K : PySem.W.Frag} {H H' : Hp} (s : Same H H') : ∀ (ds : List PyData) (vs : List V), DpAll K H vs ds → DpAll K H' vs ds
  | [], _, h => by cases h; exact .nil
  | d :: ds, _, h => by
    cases h with
    | cons a b => exact .cons (dp_same s d _ a) (dpAll_same s ds _ b)
end
theorem dp_tup {K : PySem.W.Frag} {H : Hp} {v : V} {ds : List PyData} (h : Dp K H v (.tuple ds)) : ∃ a xs, v = .ref a ∧ SqT K H a xs ∧ DpAll K H xs ds := by
  cases h with
  | tup a b => exact ⟨_, _, rfl, a, b⟩
/-- hands back the value z, all stands -/
def Pure (K : PySem.W.Frag) (vs : List V) (H : Hp) (Q : VK) (args : List V) (z : V) : Prop := vs = args ∧ ∀ H', Same H H' → Q z H'
section
variable {P : Program} {w : World} {K : PySem.W.Frag} {mg : Str → Option Value} {base : Heap}
def intD (d : PyData) : Bool := isI d && !isB d
def sp_is_integer (K : PySem.W.Frag) : Sp := fun vs H Q _ => ∃ (x : V) (d : PyData), vs = [x] ∧ Dp K H x d ∧ ∀ H', Same H H' → Q (.bl (intD d)) H'
theorem ok_is_integer (T : Txt K mg) : FnOk P w K mg base CX0 1 T.f_is_integer T.d_is_integer ["thing"] (sp_is_integer K) := by
  refine T.F_is_integer.ok sc_is_integer (fun vs H Q E h => ?_) (fun cdv A outer s H vs Q E hr h => ?_)
  · obtain ⟨x, d, rfl, _⟩ := h
    rfl
  · obtain ⟨x, d, rfl, hd, q⟩ := h
    refine ⟨_,
(pss_one (ps_ret (pe_and (pe_callB call_isi (by rfl) T.z_isinstance (by decide +kernel) (pa_cons (pv 0) (pa_cons (pe_bltn (v := .ty "int") (by rfl) T.z_int (by decide +kernel) rfl) pa_nil))) (pe_one (pe_not (pe_callB call_isi (by rfl) T.z_isinstance (by decide +kernel) (pa_cons (pv 0) (pa_cons (pe_bltn (v := .ty "bool") (by rfl) T.z_bool (by decide +kernel) rfl) pa_nil))))))))
, ?_⟩
    have q' : ∀ b, intD d = b → Q (.bl b) H := fun b e => e ▸ q H (Same.refl H)
    refine ⟨x, rfl, x, .ty "int", _, _, _, rfl, .ty _, tyx hd, kitI d, _, rfl, ?_⟩
    cases h1 : isI d with
    | false => exact iteF (q' _ (by unfold intD; rw [h1]; rfl))
    | true =>
      refine iteT ?_
      refine ⟨_, rfl, _, .ty "bool", _, _, _, rfl, .ty _, tyx hd, kitBo d, _, rfl, ?_⟩
      exact q' _ (by unfold intD; rw [h1]; rfl)
theorem btw_not {d : PyData} (h : intD d = false) (lo hi : Int) : btw d lo hi = false := by
  cases d <;> first | rfl | cases h
theorem intD_int {d : PyData} (h : intD d = true) : ∃ n, d = .int n := by
  cases d <;> first | exact ⟨_, rfl⟩ | cases h
def sp_is_between (K : PySem.W.Frag) : Sp := fun vs H Q _ => ∃ (x : V) (d : PyData) (lo hi : Int), vs = [x, .int lo, .int hi] ∧ Dp K H x d ∧ ∀ H', Same H H' → Q (.bl (btw d lo hi)) H'
theorem ok_is_between (T : Txt K mg) : FnOk P w K mg base CX0 2 T.f_is_between T.d_is_between ["thing", "least", "most"] (sp_is_between K) := by
  refine T.F_is_between.ok sc_is_between (fun vs H Q E h => ?_) (fun cdv A outer s H vs Q E hr h => ?_)
  · obtain ⟨x, d, lo, hi, rfl, _⟩ := h
    rfl
  · obtain ⟨x, d, lo, hi, rfl, hd, q⟩ := h
    refine ⟨_,
(pss_one (ps_ret (pe_and (pe_call (ok_is_integer T) (hr.mono (by decide)) (by rfl) T.g_is_integer T.F_is_integer.kp T.b_is_integer .nil pass0 (pa_cons (pv 0) pa_nil)) (pe_one (pe_chain op_le op_le (pv 1) (pv 0) (pv 2))))))
, ?_⟩
    refine ⟨x, rfl, x, d, rfl, hd, fun H1 s1 => ⟨_, rfl, ?_⟩⟩
    have q' : ∀ b, btw d lo hi = b → Q (.bl b) H1 := fun b e => e ▸ q H1 s1
    cases h1 : intD d with
    | false => exact iteF (q' _ (btw_not h1 lo hi))
    | true =>
      obtain ⟨n, rfl⟩ := intD_int h1
      cases hd
      refine iteT ?_
      refine ⟨_, rfl, _, rfl, lo, n, rfl, rfl, _, rfl, ?_⟩
      refine ite2 (fun e => ?_) (fun e => ?_)
      · refine ⟨_, rfl, n, hi, rfl, rfl, ?_⟩
        exact q' _ (by show (decide (lo ≤ n) && decide (n ≤ hi)) = _; rw [e]; rfl)
      · exact q' _ (by show (decide (lo ≤ n) && decide (n ≤ hi)) = _; rw [Bool.not_eq_true] at e; rw [e]; rfl)
def sp_is_pair (K : PySem.W.Frag) : Sp := fun vs H Q _ => ∃ (x : V) (d : PyData), vs = [x] ∧ Dp K H x d ∧ ∀ H', Same H H' → Q (.bl (pairD d)) H'
theorem ok_is_pair (T : Txt K mg) : FnOk P w K mg base CX0 2 T.f_is_pair T.d_is_pair ["thing"] (sp_is_pair K) := by
  refine T.F_is_pair.ok sc_is_pair (fun vs H Q E h => ?_) (fun cdv A outer s H vs Q E hr h => ?_)
  · obtain ⟨x, d, rfl, _⟩ := h
    rfl
  · obtain ⟨x, d, rfl, hd, q⟩ := h
    refine ⟨_,
(pss_one (ps_ret (pe_and (pe_callB call_isi (by rfl) T.z_isinstance (by decide +kernel) (pa_cons (pv 0) (pa_cons (pe_bltn (v := .ty "tuple") (by rfl) T.z_tuple (by decide +kernel) rfl) pa_nil))) (pe_one (pe_cmpR op_eq (pe_callB call_len_seq (by rfl) T.z_len (by decide +kernel) (pa_cons (pv 0) pa_nil)) pe_int (nomark _))))))
, ?_⟩
    have q' : ∀ b, pairD d = b → Q (.bl b) H := fun b e => e ▸ q H (Same.refl H)
    refine ⟨x, rfl, x, .ty "tuple", _, _, _, rfl, .ty _, tyx hd, kitT d, _, rfl, ?_⟩
    cases hd with
    | tup h1 h2 =>
      refine iteT ?_
      refine ⟨_, rfl, _, _, rfl, .inr h1, rfl, ?_⟩
      exact q' _ (by show decide _ = decide _; rw [dpAll_len h2]; congr 1; simp)
    | non => exact iteF (q H (Same.refl H))
    | int n => exact iteF (q H (Same.refl H))
    | bl b => exact iteF (q H (Same.refl H))
    | str z => exact iteF (q H (Same.refl H))
    | lst _ _ => exact iteF (q H (Same.refl H))
def tupD (d : PyData) (lo hi : Int) : Bool := match d with
  | .tuple ds => decide (lo ≤ (ds.length : Int)) && decide ((ds.length : Int) ≤ hi)
  | _ => false
def sp_is_tuple_of (K : PySem.W.Frag) : Sp := fun vs H Q _ => ∃ (x : V) (d : PyData) (lo hi : Int), vs = [x, .int lo, .int hi] ∧ Dp K H x d ∧ ∀ H', Same H H' → Q (.bl (tupD d lo hi)) H'
theorem ok_is_tuple_of (T : Txt K mg) : FnOk P w K mg base CX0 2 T.f__is_tuple_of T.d__is_tuple_of ["thing", "least", "most"] (sp_is_tuple_of K) := by
  refine T.F__is_tuple_of.ok sc_is_tuple_of (fun vs H Q E h => ?_) (fun cdv A outer s H vs Q E hr h => ?_)
  · obtain ⟨x, d, lo, hi, rfl, _⟩ := h
    rfl
  · obtain ⟨x, d, lo, hi, rfl, hd, q⟩ := h
    refine ⟨_,
(pss_one (ps_ret (pe_and (pe_callB call_isi (by rfl) T.z_isinstance (by decide +kernel) (pa_cons (pv 0) (pa_cons (pe_bltn (v := .ty "tuple") (by rfl) T.z_tuple (by decide +kernel) rfl) pa_nil))) (pe_one (pe_chain op_le op_le (pv 1) (pe_callB call_len_seq (by rfl) T.z_len (by decide +kernel) (pa_cons (pv 0) pa_nil)) (pv 2))))))
, ?_⟩
    have q' : ∀ b, tupD d lo hi = b → Q (.bl b) H := fun b e => e ▸ q H (Same.refl H)
    refine ⟨x, rfl, x, .ty "tuple", _, _, _, rfl, .ty _, tyx hd, kitT d, _, rfl, ?_⟩
    cases hd with
    | @tup a xs ds h1 h2 =>
      refine iteT ?_
      refine ⟨_, rfl, _, rfl, _, _, rfl, .inr h1, lo, _, rfl, rfl, _, rfl, ?_⟩
      have hl : xs.length = ds.length := dpAll_len h2
      refine ite2 (fun e => ?_) (fun e => ?_)
      · refine ⟨_, rfl, _, hi, rfl, rfl, ?_⟩
        exact q' _ (by show (decide (lo ≤ (ds.length : Int)) && decide ((ds.length : Int) ≤ hi)) = _; rw [← hl, e]; rfl)
      · exact q' _ (by show (decide (lo ≤ (ds.length : Int)) && decide ((ds.length : Int) ≤ hi)) = _; rw [← hl]; rw [Bool.not_eq_true] at e; rw [e]; rfl)
    | non => exact iteF (q H (Same.refl H))
    | int n => exact iteF (q H (Same.refl H))
    | bl b => exact iteF (q H (Same.refl H))
    | str z => exact iteF (q H (Same.refl H))
    | lst _ _ => exact iteF (q H (Same.refl H))
def moveD : PyData → Bool
  | .tuple [a, b] => btw a (-32) 32 && btw b (-15) 15
  | _ => false
def sp_is_move (K : PySem.W.Frag) : Sp := fun vs H Q _ => ∃ (x : V) (d : PyData), vs = [x] ∧ Dp K H x d ∧ ∀ H', Same H H' → Q (.bl (moveD d)) H'
theorem ok_is_move (T : Txt K mg) : FnOk P w K mg base CX0 3 T.f__is_move T.d__is_move ["thing"] (sp_is_move K) := by
  refine T.F__is_move.ok sc_is_move (fun vs H Q E h => ?_) (fun cdv A outer s H vs Q E hr h => ?_)
  · obtain ⟨x, d, rfl, _⟩ := h
    rfl
  · obtain ⟨x, d, rfl, hd, q⟩ := h
    refine ⟨_,
(pss_one (ps_ret (pe_and (pe_call (ok_is_pair T) (hr.mono (by decide)) (by rfl) T.g_is_pair T.F_is_pair.kp T.b_is_pair .nil pass0 (pa_cons (pv 0) pa_nil)) (pe_and (pe_call (ok_is_between T) (hr.mono (by decide)) (by rfl) T.g_is_between T.F_is_between.kp T.b_is_between .nil pass0 (pa_cons (pe_ix ix_tup (pv 0) pe_int (fun _ _ => rfl)) (pa_cons (pe_un un_neg pe_int) (pa_cons pe_int pa_nil)))) (pe_one (pe_call (ok_is_between T) (hr.mono (by decide)) (by rfl) T.g_is_between T.F_is_between.kp T.b_is_between .nil pass0 (pa_cons (pe_ix ix_tup (pv 0) pe_int (fun _ _ => rfl)) (pa_cons (pe_un un_neg pe_int) (pa_cons pe_int pa_nil)))))))))
, ?_⟩
    have q' : ∀ b H', Same H H' → moveD d = b → Q (.bl b) H' := fun b H' s e => e ▸ q H' s
    refine ⟨x, rfl, x, d, rfl, hd, fun H1 s1 => ⟨_, rfl, ?_⟩⟩
    by_cases hp : pairD d = true
    · rw [hp]
      refine iteT ?_
      obtain ⟨da, db, rfl⟩ : ∃ da db, d = .tuple [da, db] := by
        cases d with
        | tuple ds =>
          match ds, hp with
          | [a, b], _ => exact ⟨a, b, rfl⟩
          | [], hp => cases hp
          | [a], hp => cases hp
          | a :: b :: c :: r, hp =>
            have := of_decide_eq_true (show decide (((a :: b :: c :: r).length : Int) = 2) = true from hp)
            simp at this
            omega
        | _ => cases hp
      obtain ⟨a, xs, rfl, ha, hds⟩ := dp_tup hd
      have ha1 := same_tup s1 ha
      obtain ⟨x0, e0, h0⟩ := dpAll_get' hds (i := 0) rfl
      obtain ⟨x1, e1, h1⟩ := dpAll_get' hds (i := 1) rfl
      refine ⟨_, rfl, a, xs, 0, x0, rfl, rfl, ha1, atI_nat (j := 0) e0, 32, rfl, x0, da, -32, 32, rfl, dp_same s1 _ _ h0, fun H2 s2 => ⟨_, rfl, ?_⟩⟩
      have ha2 := same_tup s2 ha1
      cases hb : btw da (-32) 32 with
      | false =>
        refine iteF ?_
        exact q' _ H2 (s1.trans s2) (by show (btw da (-32) 32 && btw db (-15) 15) = false; rw [hb]; rfl)
      | true =>
        refine iteT ?_
        refine ⟨_, rfl, a, xs, 1, x1, rfl, rfl, ha2, atI_nat (j := 1) e1, 15, rfl, x1, db, -15, 15, rfl, dp_same s2 _ _ (dp_same s1 _ _ h1), fun H3 s3 => ?_⟩
        exact q' _ H3 ((s1.trans s2).trans s3) (by show (btw da (-32) 32 && btw db (-15) 15) = _; rw [hb]; rfl)
    · rw [Bool.not_eq_true] at hp
      rw [hp]
      refine iteF ?_
      have e : moveD d = false := by
        unfold moveD
        split
        · cases hp
        · rfl
      exact q' _ H1 s1 e
def fadeD (d : PyData) : Bool := btw d 0 0 || btw d 2 99
def sp_is_fade (K : PySem.W.Frag) : Sp := fun vs H Q _ => ∃ (x : V) (d : PyData), vs = [x] ∧ Dp K H x d ∧ ∀ H', Same H H' → Q (.bl (fadeD d)) H'
theorem ok_is_fade (T : Txt K mg) : FnOk P w K mg base CX0 3 T.f__is_fade T.d__is_fade ["thing"] (sp_is_fade K) := by
  refine T.F__is_fade.ok sc_is_fade (fun vs H Q E h => ?_) (fun cdv A outer s H vs Q E hr h => ?_)
  · obtain ⟨x, d, rfl, _⟩ := h
    rfl
  · obtain ⟨x, d, rfl, hd, q⟩ := h
    refine ⟨_,
(pss_one (ps_ret (pe_or (pe_call (ok_is_between T) (hr.mono (by decide)) (by rfl) T.g_is_between T.F_is_between.kp T.b_is_between .nil pass0 (pa_cons (pv 0) (pa_cons pe_int (pa_cons pe_int pa_nil)))) (pe_one (pe_call (ok_is_between T) (hr.mono (by decide)) (by rfl) T.g_is_between T.F_is_between.kp T.b_is_between .nil pass0 (pa_cons (pv 0) (pa_cons pe_int (pa_cons pe_int pa_nil))))))))
, ?_⟩
    have q' : ∀ b H', Same H H' → fadeD d = b → Q (.bl b) H' := fun b H' s e => e ▸ q H' s
    refine ⟨x, rfl, x, d, 0, 0, rfl, hd, fun H1 s1 => ⟨_, rfl, ?_⟩⟩
    cases hb : btw d 0 0 with
    | true =>
      refine iteT ?_
      exact q' _ H1 s1 (by unfold fadeD; rw [hb]; rfl)
    | false =>
      refine iteF ?_
      refine ⟨x, rfl, x, d, 2, 99, rfl, dp_same s1 _ _ hd, fun H2 s2 => ?_⟩
      exact q' _ H2 (s1.trans s2) (by unfold fadeD; rw [hb]; rfl)
end
end My

namespace My
open PySem PySem.Spec PyProof.Rows L2
theorem for_enumT {K : PySem.W.Frag} {a : Addr} {xs : List V} {g : TG} {tb : L2.TS} {D : Ends} {σ : L2.St} {H : Hp} (Pv : Nat → L2.St → Hp → Prop) (h0 : Pv 0 σ H)
    (still : ∀ i σ H, i ≤ xs.length → Pv i σ H → SqT K H a xs)
    (turn : ∀ i x σ H T, xs[i]? = some x → Pv i σ H → H T = none → g (.ref T) σ (upd H T (.tup [.int (i : Nat), x])) fun σ2 H2 => tb { D with nx := Pv (i + 1), ct := Pv (i + 1), bk := D.nx } σ2 H2)
    (fin : ∀ σ H, Pv xs.length σ H → D.nx σ H) :
    ∃ W : Nat → Nat → L2.St → Hp → Prop, (∃ m, W 0 m σ H) ∧ ∀ i m σ H, W i m σ H →
      ((Itu K a).stop i H ∧ D.nx σ H) ∨ ((Itu K a).go i H ∧ ∃ N : L2.St → Hp → Prop, (∀ σ' H', N σ' H' → ∃ m', m' < m ∧ W (i + 1) m' σ' H') ∧ ∀ x H', (Itu K a).yld i H x H' → g x σ H' fun σ2 H2 => tb { D with nx := N, ct := N, bk := D.nx } σ2 H2) := by
  refine ⟨fun i m σ H => m + i = xs.length ∧ Pv i σ H, ⟨xs.length, by omega, h0⟩, ?_⟩
  rintro i m σ H ⟨hm, p⟩
  have q := still i σ H (by omega) p
  rcases Nat.lt_or_ge i xs.length with hlt | hge
  · refine Or.inr ⟨⟨xs, xs[i], q, List.getElem?_eq_getElem hlt⟩, Pv (i + 1), fun σ' H' p' => ⟨m - 1, by omega, by omega, p'⟩, ?_⟩
    rintro v H' ⟨T, x, rfl, hT, rfl, hx⟩
    exact turn i x σ H T (hx xs q) p hT
  · have e : i = xs.length := by omega
    exact Or.inl ⟨⟨xs, q, e.symm⟩, fin σ H (e ▸ p)⟩
theorem st_tail {t u : L2.TS} {D : Ends} {σ : L2.St} {H : Hp} (R : L2.St → Hp → Prop) (hR : ∀ σ H, R σ H → u D σ H)
    (h : (∀ σ H, R σ H → u D σ H) → t { D with nx := u D } σ H) : tSeq t u D σ H := h hR
/-- the place of the first thing of which p does not hold -/
def badAt (p : PyData → Bool) : Nat → List PyData → Option Nat
  | _, [] => none
  | i, d :: r => if p d = true then badAt p (i + 1) r else some i
theorem badAt_step {p : PyData → Bool} {ds : List PyData} {i : Nat} {d : PyData} (h : ds[i]? = some d) : badAt p i (ds.drop i) = if p d = true then badAt p (i + 1) (ds.drop (i + 1)) else some i := by
  have hi := (List.getElem?_eq_some_iff.mp h).1
  have e : ds.drop i = d :: ds.drop (i + 1) := by
    rw [List.drop_eq_getElem_cons hi]
    rw [List.getElem?_eq_getElem hi] at h
    rw [Option.some.inj h]
  rw [e]
  rfl
def noOr : Option Nat → PyData
  | none => .none
  | some i => .int i
def faultD (s : Str) : Option Nat → PyData
  | none => .none
  | some i => .tuple [.str s, .int i]
def rowF (s : Str) (lo hi : Int) (p : PyData → Bool) (d : PyData) : PyData := match d with
  | .tuple ds => if tupD (.tuple ds) lo hi = true then faultD s (badAt p 0 ds) else .tuple [.str s, .none]
  | _ => .tuple [.str s, .none]
def stepsF : PyData → PyData := rowF "steps" 1 16 (btw · 1 9999)
def movesF : PyData → PyData := rowF "moves" 2 16 moveD
theorem upd_tup {K : PySem.W.Frag} {H : Hp} {p : Addr} {xs : List V} : SqT K (upd H p (.tup xs)) p xs := .inl (.inl upd_same)
section
variable {P : Program} {w : World} {K : PySem.W.Frag} {mg : Str → Option Value} {base : Heap}
/-- hands back a thing that is f of the argument -/
def spF (K : PySem.W.Frag) (f : PyData → PyData) : Sp := fun vs H Q _ => ∃ (x : V) (d : PyData), vs = [x] ∧ Dp K H x d ∧ ∀ z H', Same H H' → Dp K H' z (f d) → Q z H'
theorem ok_fault_of_steps (T : Txt K mg) : FnOk P w K mg base CX0 3 T.f__fault_of_steps T.d__fault_of_steps ["steps"] (spF K stepsF) := by
  refine T.F__fault_of_steps.ok sc_fault_of_steps (fun vs H Q E h => ?_) (fun cdv A outer s H vs Q E hr h => ?_)
  · obtain ⟨x, d, rfl, _⟩ := h
    rfl
  · obtain ⟨x, d, rfl, hd, q⟩ := h
    have q' : ∀ z H' e, Same H H' → stepsF d = e → Dp K H' z e → Q z H' := fun z H' e s ee hz => q z H' s (ee ▸ hz)
    refine ⟨_,
(pss_cons (ps_if (pt_not (pt_val (pe_call (ok_is_tuple_of T) (hr.mono (by decide)) (by rfl) T.g__is_tuple_of T.F__is_tuple_of.kp T.b__is_tuple_of .nil pass0 (pa_cons (pv 0) (pa_cons pe_int (pa_cons pe_int pa_nil)))))) (pss_one (ps_ret (pe_tup (pa_cons pe_str (pa_cons pe_non pa_nil))))) pss_nil)
      (pss_cons (ps_for PassesOwn.never rfl (My.pi_enumT (by rfl) T.z_enumerate (pa_cons (pv 0) pa_nil)) (pg_tup (by rfl) (pgs_cons (pg_name (i := 1) sc_fault_of_steps.nd rfl (Or.inl rfl)) (pgs_cons (pg_name (i := 2) sc_fault_of_steps.nd rfl (Or.inl rfl)) pgs_nil))) (pss_one (ps_if (pt_not (pt_val (pe_call (ok_is_between T) (hr.mono (by decide)) (by rfl) T.g_is_between T.F_is_between.kp T.b_is_between .nil pass0 (pa_cons (pv 2) (pa_cons pe_int (pa_cons pe_int pa_nil)))))) (pss_one (ps_ret (pe_tup (pa_cons pe_str (pa_cons (pv 1) pa_nil))))) pss_nil)))
      (pss_one (ps_ret pe_non))))
, ?_⟩
    refine ⟨x, rfl, x, d, 1, 16, rfl, hd, fun H1 s1 => ⟨_, rfl, ?_⟩⟩
    cases hb : tupD d 1 16 with
    | false =>
      refine iteT ?_
      refine ⟨by decide, fun p hp => ?_⟩
      refine q' _ _ _ (s1.trans (same_new hp)) ?_ (.tup upd_tup (.cons (.str _) (.cons .non .nil)))
      unfold stepsF rowF
      split
      · rw [hb]; rfl
      · rfl
    | true =>
      refine iteF ?_
      obtain ⟨ds, rfl⟩ : ∃ ds, d = .tuple ds := by
        cases d with
        | tuple ds => exact ⟨ds, rfl⟩
        | _ => cases hb
      obtain ⟨a, xs, rfl, ha, hds⟩ := dp_tup hd
      have hF : stepsF (.tuple ds) = faultD "steps" (badAt (btw · 1 9999) 0 ds) := by
        show (if _ then _ else _) = _
        rw [if_pos hb]
      refine ⟨.ref a, rfl, a, xs, rfl, same_tup s1 ha, ?_⟩
      refine for_enumT (K := K) (a := a) (xs := xs) (fun i σ H' => ∃ y1 y2, σ = [some (.ref a), y1, y2] ∧ Same H H' ∧ badAt (btw · 1 9999) 0 ds = badAt (btw · 1 9999) i (ds.drop i)) ⟨none, none, rfl, s1, rfl⟩ ?_ ?_ ?_
      · rintro i σ H' _ ⟨_, _, _, s2, _⟩
        exact same_tup s2 ha
      · rintro i v σ H' p hi ⟨y1, y2, rfl, s2, hbad⟩ hp
        obtain ⟨dv, hdv, hv⟩ := dpAll_get hds hi
        rw [badAt_step hdv] at hbad
        have s3 := s2.trans (same_new (o := .tup [.int (i : Nat), v]) hp)
        refine ⟨p, _, rfl, upd_tup, rfl, _, _, rfl, _, _, rfl, rfl, ?_⟩
        refine ⟨_, rfl, v, dv, 1, 9999, rfl, dp_same s3 _ _ hv, fun H2 s4 => ⟨_, rfl, ?_⟩⟩
        cases hg : btw dv 1 9999 with
        | true =>
          refine iteF ?_
          rw [hg] at hbad
          exact ⟨_, _, rfl, s3.trans s4, hbad⟩
        | false =>
          refine iteT ?_
          rw [hg] at hbad
          refine ⟨_, rfl, by show 2 ≤ sizeLine; decide, fun p2 hp2 => ?_⟩
          refine q' _ _ _ ((s3.trans s4).trans (same_new hp2)) (hF.trans ?_) (.tup upd_tup (.cons (.str _) (.cons (.int _) .nil)))
          rw [hbad]
          rfl
      · rintro σ H' ⟨y1, y2, rfl, s2, hbad⟩
        refine q' _ _ _ s2 (hF.trans ?_) .non
        rw [hbad, dpAll_len hds, List.drop_length]
        rfl
theorem ok_fault_of_moves (T : Txt K mg) : FnOk P w K mg base CX0 4 T.f__fault_of_moves T.d__fault_of_moves ["moves"] (spF K movesF) := by
  refine T.F__fault_of_moves.ok sc_fault_of_moves (fun vs H Q E h => ?_) (fun cdv A outer s H vs Q E hr h => ?_)
  · obtain ⟨x, d, rfl, _⟩ := h
    rfl
  · obtain ⟨x, d, rfl, hd, q⟩ := h
    have q' : ∀ z H' e, Same H H' → movesF d = e → Dp K H' z e → Q z H' := fun z H' e s ee hz => q z H' s (ee ▸ hz)
    refine ⟨_,
(pss_cons (ps_if (pt_not (pt_val (pe_call (ok_is_tuple_of T) (hr.mono (by decide)) (by rfl) T.g__is_tuple_of T.F__is_tuple_of.kp T.b__is_tuple_of .nil pass0 (pa_cons (pv 0) (pa_cons pe_int (pa_cons pe_int pa_nil)))))) (pss_one (ps_ret (pe_tup (pa_cons pe_str (pa_cons pe_non pa_nil))))) pss_nil)
      (pss_cons (ps_for PassesOwn.never rfl (My.pi_enumT (by rfl) T.z_enumerate (pa_cons (pv 0) pa_nil)) (pg_tup (by rfl) (pgs_cons (pg_name (i := 1) sc_fault_of_moves.nd rfl (Or.inl rfl)) (pgs_cons (pg_name (i := 2) sc_fault_of_moves.nd rfl (Or.inl rfl)) pgs_nil))) (pss_one (ps_if (pt_not (pt_val (pe_call (ok_is_move T) (hr.mono (by decide)) (by rfl) T.g__is_move T.F__is_move.kp T.b__is_move .nil pass0 (pa_cons (pv 2) pa_nil)))) (pss_one (ps_ret (pe_tup (pa_cons pe_str (pa_cons (pv 1) pa_nil))))) pss_nil)))
      (pss_one (ps_ret pe_non))))
, ?_⟩
    refine ⟨x, rfl, x, d, 2, 16, rfl, hd, fun H1 s1 => ⟨_, rfl, ?_⟩⟩
    cases hb : tupD d 2 16 with
    | false =>
      refine iteT ?_
      refine ⟨by decide, fun p hp => ?_⟩
      refine q' _ _ _ (s1.trans (same_new hp)) ?_ (.tup upd_tup (.cons (.str _) (.cons .non .nil)))
      unfold movesF rowF
      split
      · rw [hb]; rfl
      · rfl
    | true =>
      refine iteF ?_
      obtain ⟨ds, rfl⟩ : ∃ ds, d = .tuple ds := by
        cases d with
        | tuple ds => exact ⟨ds, rfl⟩
        | _ => cases hb
      obtain ⟨a, xs, rfl, ha, hds⟩ := dp_tup hd
      have hF : movesF (.tuple ds) = faultD "moves" (badAt moveD 0 ds) := by
        show (if _ then _ else _) = _
        rw [if_pos hb]
      refine ⟨.ref a, rfl, a, xs, rfl, same_tup s1 ha, ?_⟩
      refine for_enumT (K := K) (a := a) (xs := xs) (fun i σ H' => ∃ y1 y2, σ = [some (.ref a), y1, y2] ∧ Same H H' ∧ badAt moveD 0 ds = badAt moveD i (ds.drop i)) ⟨none, none, rfl, s1, rfl⟩ ?_ ?_ ?_
      · rintro i σ H' _ ⟨_, _, _, s2, _⟩
        exact same_tup s2 ha
      · rintro i v σ H' p hi ⟨y1, y2, rfl, s2, hbad⟩ hp
        obtain ⟨dv, hdv, hv⟩ := dpAll_get hds hi
        rw [badAt_step hdv] at hbad
        have s3 := s2.trans (same_new (o := .tup [.int (i : Nat), v]) hp)
        refine ⟨p, _, rfl, upd_tup, rfl, _, _, rfl, _, _, rfl, rfl, ?_⟩
        refine ⟨_, rfl, v, dv, rfl, dp_same s3 _ _ hv, fun H2 s4 => ⟨_, rfl, ?_⟩⟩
        cases hg : moveD dv with
        | true =>
          refine iteF ?_
          rw [hg] at hbad
          exact ⟨_, _, rfl, s3.trans s4, hbad⟩
        | false =>
          refine iteT ?_
          rw [hg] at hbad
          refine ⟨_, rfl, by show 2 ≤ sizeLine; decide, fun p2 hp2 => ?_⟩
          refine q' _ _ _ ((s3.trans s4).trans (same_new hp2)) (hF.trans ?_) (.tup upd_tup (.cons (.str _) (.cons (.int _) .nil)))
          rw [hbad]
          rfl
      · rintro σ H' ⟨y1, y2, rfl, s2, hbad⟩
        refine q' _ _ _ s2 (hF.trans ?_) .non
        rw [hbad, dpAll_len hds, List.drop_length]
        rfl
/-- the five things -/
def codF (low high steps moves fade : PyData) : PyData :=
  if btw low (-32768) 0 = true then
    if btw high 0 32767 = true then
      match stepsF steps with
      | .none => (match movesF moves with
        | .none => if fadeD fade = true then .none else .tuple [.str "fade", .none]
        | e => e)
      | e => e
    else .tuple [.str "high", .none]
  else .tuple [.str "low", .none]
def firstF : PyData → PyData
  | .tuple [low, high, steps, moves, fade] => codF low high steps moves fade
  | _ => .tuple [.str "form", .none]
def isN : PyData → Bool
  | .none => true
  | _ => false
theorem dp_isN {K : PySem.W.Frag} {H : Hp} {z : V} {e : PyData} (h : Dp K H z e) : decide (z = V.non) = isN e := by
  cases h <;> rfl
theorem len5 {ds : List PyData} (h : ds.length = 5) : ∃ a b c d e, ds = [a, b, c, d, e] := by
  match ds, h with
  | [a, b, c, d, e], _ => exact ⟨a, b, c, d, e, rfl⟩
theorem dpAll5 {K : PySem.W.Frag} {H : Hp} {xs : List V} {a b c d e : PyData} (h : DpAll K H xs [a, b, c, d, e]) : ∃ x1 x2 x3 x4 x5, xs = [x1, x2, x3, x4, x5] ∧ Dp K H x1 a ∧ Dp K H x2 b ∧ Dp K H x3 c ∧ Dp K H x4 d ∧ Dp K H x5 e := by
  cases h with
  | cons h1 h => cases h with
    | cons h2 h => cases h with
      | cons h3 h => cases h with
        | cons h4 h => cases h with
          | cons h5 h => cases h with
            | nil => exact ⟨_, _, _, _, _, rfl, h1, h2, h3, h4, h5⟩
theorem ok_first_fault (T : Txt K mg) : FnOk P w K mg base CX0 5 T.f__first_fault T.d__first_fault ["thing"] (spF K firstF) := by
  refine T.F__first_fault.ok sc_first_fault (fun vs H Q E h => ?_) (fun cdv A outer s H vs Q E hr h => ?_)
  · obtain ⟨x, d, rfl, _⟩ := h
    rfl
  · obtain ⟨x, d, rfl, hd, q⟩ := h
    have q' : ∀ z H' e, Same H H' → firstF d = e → Dp K H' z e → Q z H' := fun z H' e s ee hz => q z H' s (ee ▸ hz)
    refine ⟨_,
(pss_cons (ps_if (PW.pt (pw_or (pt_not (pt_val (pe_callB call_isi (by rfl) T.z_isinstance (by decide +kernel) (pa_cons (pv 0) (pa_cons (pe_bltn (v := .ty "tuple") (by rfl) T.z_tuple (by decide +kernel) rfl) pa_nil))))) (pw_or1 (pt_cmpR op_ne (pe_callB call_len_seq (by rfl) T.z_len (by decide +kernel) (pa_cons (pv 0) pa_nil)) pe_int (nomark _))))) (pss_one (ps_ret (pe_tup (pa_cons pe_str (pa_cons pe_non pa_nil))))) pss_nil)
      (pss_cons (ps_asg (pv 0) (pg_tup (by rfl) (pgs_cons (pg_name (i := 1) sc_first_fault.nd rfl (Or.inl rfl)) (pgs_cons (pg_name (i := 2) sc_first_fault.nd rfl (Or.inl rfl)) (pgs_cons (pg_name (i := 3) sc_first_fault.nd rfl (Or.inl rfl)) (pgs_cons (pg_name (i := 4) sc_first_fault.nd rfl (Or.inl rfl)) (pgs_cons (pg_name (i := 5) sc_first_fault.nd rfl (Or.inl rfl)) pgs_nil)))))))
      (pss_cons (ps_if (pt_not (pt_val (pe_call (ok_is_between T) (hr.mono (by decide)) (by rfl) T.g_is_between T.F_is_between.kp T.b_is_between .nil pass0 (pa_cons (pv 1) (pa_cons (pe_un un_neg pe_int) (pa_cons pe_int pa_nil)))))) (pss_one (ps_ret (pe_tup (pa_cons pe_str (pa_cons pe_non pa_nil))))) pss_nil)
      (pss_cons (ps_if (pt_not (pt_val (pe_call (ok_is_between T) (hr.mono (by decide)) (by rfl) T.g_is_between T.F_is_between.kp T.b_is_between .nil pass0 (pa_cons (pv 2) (pa_cons pe_int (pa_cons pe_int pa_nil)))))) (pss_one (ps_ret (pe_tup (pa_cons pe_str (pa_cons pe_non pa_nil))))) pss_nil)
      (pss_cons (ps_set (i := 6) sc_first_fault.nd rfl (Or.inl rfl) (pe_call (ok_fault_of_steps T) (hr.mono (by decide)) (by rfl) T.g__fault_of_steps T.F__fault_of_steps.kp T.b__fault_of_steps .nil pass0 (pa_cons (pv 3) pa_nil)))
      (pss_cons (ps_if (pt_cmpR op_isN (pv 6) pe_non (nomark _)) (pss_one (ps_set (i := 6) sc_first_fault.nd rfl (Or.inl rfl) (pe_call (ok_fault_of_moves T) (hr.mono (by decide)) (by rfl) T.g__fault_of_moves T.F__fault_of_moves.kp T.b__fault_of_moves .nil pass0 (pa_cons (pv 4) pa_nil)))) pss_nil)
      (pss_cons (ps_if (PW.pt (pw_and (pt_cmpR op_isN (pv 6) pe_non (nomark _)) (pw_and1 (pt_not (pt_val (pe_call (ok_is_fade T) (hr.mono (by decide)) (by rfl) T.g__is_fade T.F__is_fade.kp T.b__is_fade .nil pass0 (pa_cons (pv 5) pa_nil))))))) (pss_one (ps_set (i := 6) sc_first_fault.nd rfl (Or.inl rfl) (pe_tup (pa_cons pe_str (pa_cons pe_non pa_nil))))) pss_nil)
      (pss_one (ps_ret (pv 6))))))))))
, ?_⟩
    refine ⟨x, rfl, x, .ty "tuple", _, _, _, rfl, .ty _, tyx hd, kitT d, _, rfl, ?_⟩
    -- no tuple of five things
    have bad : (∀ a b c e f, d ≠ .tuple [a, b, c, e, f]) → ∀ H1, Same H H1 → ([V.str "form", V.non].length ≤ sizeLine ∧ ∀ p, H1 p = none → Q (.ref p) (upd H1 p (.tup [V.str "form", V.non]))) := fun nd H1 s1 => by
      refine ⟨by decide, fun p hp => q' _ _ _ (s1.trans (same_new hp)) ?_ (.tup upd_tup (.cons (.str _) (.cons .non .nil)))⟩
      unfold firstF
      split
      · exact absurd rfl (nd _ _ _ _ _)
      · rfl
    cases hT : isT d with
    | false =>
      refine iteT ?_
      exact bad (fun a b c e f z => by rw [z] at hT; cases hT) H (Same.refl H)
    | true =>
      refine iteF ?_
      obtain ⟨ds, rfl⟩ : ∃ ds, d = .tuple ds := by
        cases d with
        | tuple ds => exact ⟨ds, rfl⟩
        | _ => cases hT
      obtain ⟨a, xs, rfl, ha, hds⟩ := dp_tup hd
      refine ⟨_, rfl, a, xs, rfl, .inr ha, rfl, _, rfl, ?_⟩
      have hl := dpAll_len hds
      by_cases h5 : ds.length = 5
      · have e5 : decide (V.int (xs.length : Int) = V.int 5) = true := by rw [hl, h5]; rfl
        rw [e5]
        refine iteF ?_
        obtain ⟨low, high, steps, moves, fade, rfl⟩ := len5 h5
        obtain ⟨x1, x2, x3, x4, x5, rfl, d1, d2, d3, d4, d5⟩ := dpAll5 hds
        have hF : firstF (.tuple [low, high, steps, moves, fade]) = codF low high steps moves fade := rfl
        rw [hF] at q'
        refine ⟨_, rfl, a, _, rfl, ha, rfl, _, _, rfl, _, _, rfl, _, _, rfl, _, _, rfl, _, _, rfl, rfl, ?_⟩
        refine ⟨_, rfl, 32768, rfl, x1, low, -32768, 0, rfl, d1, fun H1 s1 => ⟨_, rfl, ?_⟩⟩
        cases b1 : btw low (-32768) 0 with
        | false =>
          refine iteT ?_
          refine ⟨by decide, fun p hp => q' _ _ _ (s1.trans (same_new hp)) ?_ (.tup upd_tup (.cons (.str "low") (.cons .non .nil)))⟩
          unfold codF
          rw [b1]
          rfl
        | true =>
        refine iteF ?_
        refine ⟨_, rfl, x2, high, 0, 32767, rfl, dp_same s1 _ _ d2, fun H2 s2 => ⟨_, rfl, ?_⟩⟩
        have s12 := s1.trans s2
        cases b2 : btw high 0 32767 with
        | false =>
          refine iteT ?_
          refine ⟨by decide, fun p hp => q' _ _ _ (s12.trans (same_new hp)) ?_ (.tup upd_tup (.cons (.str "high") (.cons .non .nil)))⟩
          unfold codF
          rw [b1, b2]
          rfl
        | true =>
        refine iteF ?_
        refine ⟨_, rfl, x3, steps, rfl, dp_same s12 _ _ d3, fun z1 H3 s3 hz1 => ?_⟩
        have s13 := s12.trans s3
        dsimp only
        refine st_tail (fun σ H' => ∃ (z : V) (e : PyData), σ = [some (.ref a), some x1, some x2, some x3, some x4, some x5, some z] ∧ Same H H' ∧ Dp K H' z e ∧
          codF low high steps moves fade = (if isN e = true then (if fadeD fade = true then .none else .tuple [.str "fade", .none]) else e)) ?_ fun tail => ?_
        · rintro σ H4 ⟨z, e, rfl, s4, hz, he⟩
          refine ⟨_, rfl, rfl, _, rfl, ?_⟩
          show if decide (z = V.non) = true then _ else _
          rw [dp_isN hz]
          cases hn : isN e with
          | false =>
            refine iteF ?_
            refine iteF ?_
            refine ⟨_, rfl, q' _ _ _ s4 ?_ hz⟩
            rw [he, hn]
            rfl
          | true =>
            refine iteT ?_
            refine ⟨_, rfl, x5, fade, rfl, dp_same s4 _ _ d5, fun H5 s5 => ⟨_, rfl, ?_⟩⟩
            cases hf : fadeD fade with
            | true =>
              refine iteF ?_
              have en : e = .none := by
                cases e with
                | none => rfl
                | _ => cases hn
              refine ⟨_, rfl, q' _ _ _ (s4.trans s5) ?_ (dp_same s5 _ _ hz)⟩
              rw [he, hn, hf, en]
              rfl
            | false =>
              refine iteT ?_
              refine ⟨by decide, fun p hp => ⟨_, rfl, q' _ _ _ ((s4.trans s5).trans (same_new hp)) ?_ (.tup upd_tup (.cons (.str "fade") (.cons .non .nil)))⟩⟩
              rw [he, hn, hf]
              rfl
        refine ⟨_, rfl, rfl, _, rfl, ?_⟩
        show if decide (z1 = V.non) = true then _ else _
        rw [dp_isN hz1]
        have hC : codF low high steps moves fade = (match stepsF steps with
          | .none => (match movesF moves with
            | .none => if fadeD fade = true then .none else .tuple [.str "fade", .none]
            | e => e)
          | e => e) := by
          unfold codF
          rw [b1, b2]
          rfl
        cases hn : isN (stepsF steps) with
        | false =>
          refine iteF ?_
          refine tail _ _ ⟨z1, stepsF steps, rfl, s13, hz1, ?_⟩
          rw [hC, hn]
          cases e : stepsF steps with
          | none => rw [e] at hn; cases hn
          | _ => rfl
        | true =>
          refine iteT ?_
          refine ⟨_, rfl, x4, moves, rfl, dp_same s13 _ _ d4, fun z2 H4 s4 hz2 => ?_⟩
          refine tail _ _ ⟨z2, movesF moves, rfl, s13.trans s4, hz2, ?_⟩
          rw [hC]
          have en : stepsF steps = .none := by
            cases e : stepsF steps with
            | none => rfl
            | _ => rw [e] at hn; cases hn
          rw [en]
          cases movesF moves <;> rfl
      · have e5 : decide (V.int (xs.length : Int) = V.int 5) = false := by
          rw [hl]
          refine decide_eq_false fun z => h5 ?_
          have := V.int.inj z
          omega
        rw [e5]
        refine iteT ?_
        exact bad (fun a b c e f z => by cases z; exact h5 rfl) H (Same.refl H)
end
end My

namespace My
open PySem PySem.Spec PyProof.Rows L2
/-! ### coders, states, the move of a code: the mathematics -/
structure Cod where
  low : Int
  high : Int
  steps : List Int
  moves : List (Int × Int)
  fade : Int
def pairI (p : Int × Int) : PyData := .tuple [.int p.1, .int p.2]
def Cod.dat (C : Cod) : PyData := .tuple [.int C.low, .int C.high, .tuple (C.steps.map .int), .tuple (C.moves.map pairI), .int C.fade]
structure Cod.Ok (C : Cod) : Prop where
  l1 : -32768 ≤ C.low
  l2 : C.low ≤ 0
  h1 : 0 ≤ C.high
  h2 : C.high ≤ 32767
  s1 : 1 ≤ C.steps.length
  s2 : C.steps.length ≤ 16
  s3 : ∀ s ∈ C.steps, 1 ≤ s ∧ s ≤ 9999
  m1 : 2 ≤ C.moves.length
  m2 : C.moves.length ≤ 16
  m3 : ∀ p ∈ C.moves, (-32 ≤ p.1 ∧ p.1 ≤ 32) ∧ (-15 ≤ p.2 ∧ p.2 ≤ 15)
  f1 : C.fade = 0 ∨ (2 ≤ C.fade ∧ C.fade ≤ 99)
def rnd (n d : Int) : Int := if n < 0 then -((-n).fdiv d) else n.fdiv d
def lim (n lo hi : Int) : Int := if n < lo then lo else if hi < n then hi else n
def fdd (l f : Int) : Int := if f = 0 then l else l - rnd l f
def Cod.chg (C : Cod) (k p : Nat) : Int := rnd ((C.moves.getD k (0, 0)).1 * C.steps.getD p 0) 8
def Cod.led (C : Cod) (s : Int × Int) (k : Nat) : Int × Int :=
  (lim (fdd s.1 C.fade + C.chg k s.2.toNat) C.low C.high, lim (s.2 + (C.moves.getD k (0, 0)).2) 0 ((C.steps.length : Int) - 1))
def Cod.St (C : Cod) (s : Int × Int) : Prop := C.low ≤ s.1 ∧ s.1 ≤ C.high ∧ 0 ≤ s.2 ∧ s.2 < C.steps.length
theorem lim_in {n lo hi : Int} (h : lo ≤ hi) : lo ≤ lim n lo hi ∧ lim n lo hi ≤ hi := by
  unfold lim
  split
  · omega
  · split <;> omega
theorem Cod.led_St {C : Cod} (O : C.Ok) (s : Int × Int) (k : Nat) : C.St (C.led s k) := by
  have h1 := lim_in (n := fdd s.1 C.fade + C.chg k s.2.toNat) (lo := C.low) (hi := C.high) (by have := O.l2; have := O.h1; omega)
  have h2 := lim_in (n := s.2 + (C.moves.getD k (0, 0)).2) (lo := 0) (hi := (C.steps.length : Int) - 1) (by have := O.s1; omega)
  exact ⟨h1.1, h1.2, h2.1, by show lim _ _ _ < _; omega⟩
theorem badAt_none {p : PyData → Bool} : ∀ {ds : List PyData} {i : Nat}, (∀ d ∈ ds, p d = true) → badAt p i ds = none
  | [], _, _ => rfl
  | d :: r, i, h => by
    show (if p d = true then badAt p (i + 1) r else some i) = none
    rw [if_pos (h d List.mem_cons_self)]
    exact badAt_none fun e he => h e (List.mem_cons_of_mem _ he)
theorem btw_in {n lo hi : Int} (h1 : lo ≤ n) (h2 : n ≤ hi) : btw (.int n) lo hi = true := by
  show (decide _ && decide _) = true
  rw [decide_eq_true h1, decide_eq_true h2]
  rfl
theorem tup_in {ds : List PyData} {lo hi : Int} (h1 : lo ≤ (ds.length : Int)) (h2 : (ds.length : Int) ≤ hi) : tupD (.tuple ds) lo hi = true := by
  show (decide _ && decide _) = true
  rw [decide_eq_true h1, decide_eq_true h2]
  rfl
theorem Cod.Ok.first {C : Cod} (O : C.Ok) : firstF C.dat = .none := by
  have e1 : stepsF (.tuple (C.steps.map .int)) = .none := by
    show (if _ then _ else _) = _
    rw [if_pos (tup_in (by rw [List.length_map]; have := O.s1; omega) (by rw [List.length_map]; have := O.s2; omega)), badAt_none]
    · rfl
    · intro d hd
      obtain ⟨s, hs, rfl⟩ := List.mem_map.mp hd
      exact btw_in (O.s3 s hs).1 (O.s3 s hs).2
  have e2 : movesF (.tuple (C.moves.map pairI)) = .none := by
    show (if _ then _ else _) = _
    rw [if_pos (tup_in (by rw [List.length_map]; have := O.m1; omega) (by rw [List.length_map]; have := O.m2; omega)), badAt_none]
    · rfl
    · intro d hd
      obtain ⟨p, hp, rfl⟩ := List.mem_map.mp hd
      obtain ⟨⟨a1, a2⟩, b1, b2⟩ := O.m3 p hp
      show (btw (.int p.1) (-32) 32 && btw (.int p.2) (-15) 15) = true
      rw [btw_in a1 a2, btw_in b1 b2]
      rfl
  have e3 : fadeD (.int C.fade) = true := by
    unfold fadeD
    rcases O.f1 with h | ⟨h1, h2⟩
    · rw [btw_in (by omega) (by omega)]
      rfl
    · rw [btw_in h1 h2, Bool.or_true]
  show codF (.int C.low) (.int C.high) (.tuple (C.steps.map .int)) (.tuple (C.moves.map pairI)) (.int C.fade) = .none
  unfold codF
  rw [if_pos (btw_in O.l1 O.l2), if_pos (btw_in O.h1 O.h2), e1, e2, if_pos e3]
theorem dpAll_ints {K : PySem.W.Frag} {H : Hp} : ∀ {ns : List Int} {xs : List V}, DpAll K H xs (ns.map .int) → xs = ns.map V.int
  | [], _, h => by cases h; rfl
  | n :: r, _, h => by
    cases h with
    | cons a b =>
      cases a
      rw [dpAll_ints b]
      rfl
theorem dp_int {K : PySem.W.Frag} {H : Hp} {v : V} {n : Int} (h : Dp K H v (.int n)) : v = .int n := by
  cases h
  rfl
theorem dpAll2 {K : PySem.W.Frag} {H : Hp} {xs : List V} {a b : PyData} (h : DpAll K H xs [a, b]) : ∃ x1 x2, xs = [x1, x2] ∧ Dp K H x1 a ∧ Dp K H x2 b := by
  cases h with
  | cons h1 h => cases h with
    | cons h2 h => cases h with
      | nil => exact ⟨_, _, rfl, h1, h2⟩
theorem dp_pair {K : PySem.W.Frag} {H : Hp} {v : V} {p : Int × Int} (h : Dp K H v (pairI p)) : ∃ a, v = .ref a ∧ SqT K H a [.int p.1, .int p.2] := by
  obtain ⟨a, xs, rfl, ha, hd⟩ := dp_tup h
  obtain ⟨x1, x2, rfl, h1, h2⟩ := dpAll2 hd
  rw [dp_int h1, dp_int h2] at ha
  exact ⟨a, rfl, ha⟩
/-- a coder's parts -/
theorem cod_at {K : PySem.W.Frag} {H : Hp} {c : V} {C : Cod} (h : Dp K H c C.dat) : ∃ (a s m : Addr) (ms : List V), c = .ref a ∧ SqT K H a [.int C.low, .int C.high, .ref s, .ref m, .int C.fade] ∧
    SqT K H s (C.steps.map V.int) ∧ SqT K H m ms ∧ DpAll K H ms (C.moves.map pairI) := by
  obtain ⟨a, xs, rfl, ha, hd⟩ := dp_tup h
  obtain ⟨x1, x2, x3, x4, x5, rfl, h1, h2, h3, h4, h5⟩ := dpAll5 hd
  obtain ⟨s, ys, rfl, hs, hsd⟩ := dp_tup h3
  obtain ⟨m, ms, rfl, hm, hmd⟩ := dp_tup h4
  rw [dp_int h1, dp_int h2, dp_int h5] at ha
  rw [dpAll_ints hsd] at hs
  exact ⟨a, s, m, ms, rfl, ha, hs, hm, hmd⟩
theorem move_at {K : PySem.W.Frag} {H : Hp} {C : Cod} {ms : List V} (h : DpAll K H ms (C.moves.map pairI)) {k : Nat} (hk : k < C.moves.length) :
    ∃ q, ms[k]? = some (.ref q) ∧ SqT K H q [.int (C.moves.getD k (0, 0)).1, .int (C.moves.getD k (0, 0)).2] := by
  have e : (C.moves.map pairI)[k]? = some (pairI (C.moves.getD k (0, 0))) := by
    rw [List.getElem?_map, List.getElem?_eq_getElem hk, List.getD_eq_getElem?_getD, List.getElem?_eq_getElem hk]
    rfl
  obtain ⟨x, hx, hd⟩ := dpAll_get' h e
  obtain ⟨q, rfl, hq⟩ := dp_pair hd
  exact ⟨q, hx, hq⟩
theorem step_at {C : Cod} {p : Nat} (hp : p < C.steps.length) : (C.steps.map V.int)[p]? = some (.int (C.steps.getD p 0)) := by
  rw [List.getElem?_map, List.getElem?_eq_getElem hp, List.getD_eq_getElem?_getD, List.getElem?_eq_getElem hp]
  rfl
section
variable {P : Program} {w : World} {K : PySem.W.Frag} {mg : Str → Option Value} {base : Heap}
def sp_need_coder (K : PySem.W.Frag) : Sp := fun vs H Q _ => ∃ (x : V) (d : PyData), vs = [x] ∧ Dp K H x d ∧ firstF d = .none ∧ ∀ H', Same H H' → Q x H'
theorem ok_need_coder (T : Txt K mg) : FnOk P w K mg base CX0 6 T.f_need_coder T.d_need_coder ["thing"] (sp_need_coder K) := by
  refine T.F_need_coder.ok sc_need_coder (fun vs H Q E h => ?_) (fun cdv A outer s H vs Q E hr h => ?_)
  · obtain ⟨x, d, rfl, _⟩ := h
    rfl
  · obtain ⟨x, d, rfl, hd, h0, q⟩ := h
    refine ⟨_,
(pss_cons (ps_set (i := 1) sc_need_coder.nd rfl (Or.inl rfl) (pe_call (ok_first_fault T) (hr.mono (by decide)) (by rfl) T.g__first_fault T.F__first_fault.kp T.b__first_fault .nil pass0 (pa_cons (pv 0) pa_nil)))
      (pss_cons (ps_if (pt_cmpR op_notN (pv 1) pe_non (nomark _)) (pss_one ps_never) pss_nil)
      (pss_one (ps_ret (pv 0)))))
, ?_⟩
    refine ⟨x, rfl, x, d, rfl, hd, fun z H1 s1 hz => ?_⟩
    rw [h0] at hz
    cases hz
    refine ⟨_, rfl, rfl, _, rfl, ?_⟩
    refine iteF ?_
    exact ⟨x, rfl, q H1 s1⟩
def sp_is_code (K : PySem.W.Frag) : Sp := fun vs H Q _ => ∃ (c x : V) (C : Cod) (d : PyData), vs = [c, x] ∧ Dp K H c C.dat ∧ Dp K H x d ∧ ∀ H', Same H H' → Q (.bl (btw d 0 ((C.moves.length : Int) - 1))) H'
theorem ok_is_code (T : Txt K mg) : FnOk P w K mg base CX0 3 T.f_is_code T.d_is_code ["coder", "thing"] (sp_is_code K) := by
  refine T.F_is_code.ok sc_is_code (fun vs H Q E h => ?_) (fun cdv A outer s H vs Q E hr h => ?_)
  · obtain ⟨c, x, C, d, rfl, _⟩ := h
    rfl
  · obtain ⟨c, x, C, d, rfl, hc, hd, q⟩ := h
    obtain ⟨a, s, m, ms, rfl, ha, hs, hm, hmd⟩ := cod_at hc
    refine ⟨_,
(pss_one (ps_ret (pe_call (ok_is_between T) (hr.mono (by decide)) (by rfl) T.g_is_between T.F_is_between.kp T.b_is_between .nil pass0 (pa_cons (pv 1) (pa_cons pe_int (pa_cons (pe_op op_sub (pe_callB call_len_seq (by rfl) T.z_len (by decide +kernel) (pa_cons (pe_ix ix_tup (pv 0) pe_int (fun _ _ => rfl)) pa_nil)) pe_int) pa_nil))))))
, ?_⟩
    refine ⟨x, rfl, _, rfl, a, _, 3, .ref m, rfl, rfl, ha, atI_nat (j := 3) rfl, m, ms, rfl, .inr hm, _, _, rfl, rfl, ?_⟩
    have e : (ms.length : Int) - 1 = (C.moves.length : Int) - 1 := by rw [dpAll_len hmd, List.length_map]
    refine ⟨x, d, 0, _, rfl, hd, fun H1 s1 => ?_⟩
    show Q (.bl (btw d 0 ((ms.length : Int) - 1))) H1
    rw [e]
    exact q H1 s1
def sp_is_place (K : PySem.W.Frag) : Sp := fun vs H Q _ => ∃ (c x : V) (C : Cod) (d : PyData), vs = [c, x] ∧ Dp K H c C.dat ∧ Dp K H x d ∧ ∀ H', Same H H' → Q (.bl (btw d 0 ((C.steps.length : Int) - 1))) H'
theorem ok_is_place (T : Txt K mg) : FnOk P w K mg base CX0 3 T.f_is_place T.d_is_place ["coder", "thing"] (sp_is_place K) := by
  refine T.F_is_place.ok sc_is_place (fun vs H Q E h => ?_) (fun cdv A outer s H vs Q E hr h => ?_)
  · obtain ⟨c, x, C, d, rfl, _⟩ := h
    rfl
  · obtain ⟨c, x, C, d, rfl, hc, hd, q⟩ := h
    obtain ⟨a, s, m, ms, rfl, ha, hs, hm, hmd⟩ := cod_at hc
    refine ⟨_,
(pss_one (ps_ret (pe_call (ok_is_between T) (hr.mono (by decide)) (by rfl) T.g_is_between T.F_is_between.kp T.b_is_between .nil pass0 (pa_cons (pv 1) (pa_cons pe_int (pa_cons (pe_op op_sub (pe_callB call_len_seq (by rfl) T.z_len (by decide +kernel) (pa_cons (pe_ix ix_tup (pv 0) pe_int (fun _ _ => rfl)) pa_nil)) pe_int) pa_nil))))))
, ?_⟩
    refine ⟨x, rfl, _, rfl, a, _, 2, .ref s, rfl, rfl, ha, atI_nat (j := 2) rfl, s, _, rfl, .inr hs, _, _, rfl, rfl, ?_⟩
    refine ⟨x, d, 0, _, rfl, hd, fun H1 s1 => ?_⟩
    show Q (.bl (btw d 0 (((C.steps.map V.int).length : Int) - 1))) H1
    rw [List.length_map]
    exact q H1 s1
def stateD (C : Cod) : PyData → Bool
  | .tuple [a, b] => btw a C.low C.high && btw b 0 ((C.steps.length : Int) - 1)
  | _ => false
theorem pairD_two {d : PyData} (h : pairD d = true) : ∃ a b, d = .tuple [a, b] := by
  cases d with
  | tuple ds =>
    match ds, h with
    | [a, b], _ => exact ⟨a, b, rfl⟩
    | [], hp => cases hp
    | [a], hp => cases hp
    | a :: b :: c :: r, hp =>
      have := of_decide_eq_true (show decide (((a :: b :: c :: r).length : Int) = 2) = true from hp)
      simp at this
      omega
  | _ => cases h
def sp_is_state (K : PySem.W.Frag) : Sp := fun vs H Q _ => ∃ (c x : V) (C : Cod) (d : PyData), vs = [c, x] ∧ Dp K H c C.dat ∧ Dp K H x d ∧ ∀ H', Same H H' → Q (.bl (stateD C d)) H'
theorem ok_is_state (T : Txt K mg) : FnOk P w K mg base CX0 4 T.f_is_state T.d_is_state ["coder", "thing"] (sp_is_state K) := by
  refine T.F_is_state.ok sc_is_state (fun vs H Q E h => ?_) (fun cdv A outer s H vs Q E hr h => ?_)
  · obtain ⟨c, x, C, d, rfl, _⟩ := h
    rfl
  · obtain ⟨c, x, C, d, rfl, hc, hd, q⟩ := h
    have q' : ∀ b H', Same H H' → stateD C d = b → Q (.bl b) H' := fun b H' s e => e ▸ q H' s
    refine ⟨_,
(pss_one (ps_ret (pe_and (pe_call (ok_is_pair T) (hr.mono (by decide)) (by rfl) T.g_is_pair T.F_is_pair.kp T.b_is_pair .nil pass0 (pa_cons (pv 1) pa_nil)) (pe_and (pe_call (ok_is_between T) (hr.mono (by decide)) (by rfl) T.g_is_between T.F_is_between.kp T.b_is_between .nil pass0 (pa_cons (pe_ix ix_tup (pv 1) pe_int (fun _ _ => rfl)) (pa_cons (pe_ix ix_tup (pv 0) pe_int (fun _ _ => rfl)) (pa_cons (pe_ix ix_tup (pv 0) pe_int (fun _ _ => rfl)) pa_nil)))) (pe_one (pe_call (ok_is_place T) (hr.mono (by decide)) (by rfl) T.g_is_place T.F_is_place.kp T.b_is_place .nil pass0 (pa_cons (pv 0) (pa_cons (pe_ix ix_tup (pv 1) pe_int (fun _ _ => rfl)) pa_nil))))))))
, ?_⟩
    refine ⟨x, rfl, x, d, rfl, hd, fun H1 s1 => ⟨_, rfl, ?_⟩⟩
    cases hp : pairD d with
    | false =>
      refine iteF (q' _ _ s1 ?_)
      unfold stateD
      split
      · cases hp
      · rfl
    | true =>
      refine iteT ?_
      obtain ⟨da, db, rfl⟩ := pairD_two hp
      obtain ⟨a, s, m, ms, rfl, ha, hs, hm, hmd⟩ := cod_at (dp_same s1 _ _ hc)
      obtain ⟨t, ts, rfl, ht, htd⟩ := dp_tup (dp_same s1 _ _ hd)
      obtain ⟨x1, x2, rfl, h1, h2⟩ := dpAll2 htd
      refine ⟨_, rfl, t, _, 0, x1, rfl, rfl, ht, atI_nat (j := 0) rfl, _, rfl, a, _, 0, _, rfl, rfl, ha, atI_nat (j := 0) rfl, _, rfl, a, _, 1, _, rfl, rfl, ha, atI_nat (j := 1) rfl,
        x1, da, C.low, C.high, rfl, h1, fun H2 s2 => ⟨_, rfl, ?_⟩⟩
      cases hb : btw da C.low C.high with
      | false => exact iteF (q' _ _ (s1.trans s2) (by show (btw da C.low C.high && btw db 0 ((C.steps.length : Int) - 1)) = false; rw [hb]; rfl))
      | true =>
        refine iteT ?_
        refine ⟨_, rfl, _, rfl, t, _, 1, x2, rfl, rfl, same_tup s2 ht, atI_nat (j := 1) rfl, .ref a, x2, C, db, rfl, dp_same s2 _ _ (dp_same s1 _ _ hc), dp_same s2 _ _ h2, fun H3 s3 => ?_⟩
        exact q' _ _ ((s1.trans s2).trans s3) (by show (btw da C.low C.high && btw db 0 ((C.steps.length : Int) - 1)) = _; rw [hb]; rfl)
end
end My

namespace My
open PySem PySem.Spec PyProof.Rows L2
theorem lim_of {n lo hi : Int} (h : lo ≤ hi) : (if (if hi < n then hi else n) > lo then (if hi < n then hi else n) else lo) = lim n lo hi := by
  unfold lim
  split <;> split <;> split <;> omega
section
variable {P : Program} {w : World} {K : PySem.W.Frag} {mg : Str → Option Value} {base : Heap}
theorem okD0 {x qual : Str} {params : Arguments} {body : List Stmt} {scope : Scope} {dvs : List V} {f : Addr} {fd : FuncData} {N ps : List Str} {k : Nat} {sp : Sp}
    (F : ∃ q : Addr, FunD K x qual params body scope dvs [("state", V.ref q)] f fd) (S : FnScope N ps scope) (len : ∀ vs H Q E, sp vs H Q E → vs.length = ps.length)
    (hbody : ∀ (cdv : Value) (A : Around) (outer : List Env) (s : Shared) (H : Hp) (vs : List V) (Q : VK) (E : XK), Room k (A.deeper (envOfC qual scope s.heap.objs.size f cdv)) → sp vs H Q E →
      ∃ t, PSs (cxOf CX0 P w K mg base N qual scope f cdv A outer s H E).nox body t ∧ t { nx := fun _ H' => Q .non H', rt := Q } (start N vs) H) : FnOk P w K mg base CX0 (k + 1) f fd ps sp := by
  obtain ⟨q, F⟩ := F
  refine F.ok S len fun cdv A outer s H vs Q E hr h => ?_
  obtain ⟨t, ht, hq⟩ := hbody cdv A outer s H vs Q E hr h
  exact ⟨t, ht.nox, hq⟩
def sp_rounded : Sp := fun vs H Q _ => ∃ (n d : Int), vs = [.int n, .int d] ∧ 0 < d ∧ d < 1000 ∧ Q (.int (rnd n d)) H
theorem ok_rounded (T : Txt K mg) : FnOk P w K mg base CX0 2 T.f_rounded T.d_rounded ["number", "divisor"] sp_rounded := by
  refine T.F_rounded.ok sc_rounded (fun vs H Q E h => ?_) (fun cdv A outer s H vs Q E hr h => ?_)
  · obtain ⟨n, d, rfl, _⟩ := h
    rfl
  · obtain ⟨n, d, rfl, h1, h2, q⟩ := h
    have q' : ∀ z, rnd n d = z → Q (.int z) H := fun z e => e ▸ q
    refine ⟨_,
(pss_cons (ps_if (pt_cmpR op_lt (pv 0) pe_int (nomark _)) (pss_one (ps_ret (pe_un un_neg (pe_op op_fdivN (pe_un un_neg (pv 0)) (pv 1))))) pss_nil)
      (pss_one (ps_ret (pe_op op_fdivN (pv 0) (pv 1)))))
, ?_⟩
    refine ⟨_, rfl, n, 0, rfl, rfl, _, rfl, ?_⟩
    refine ite2 (fun e => ?_) (fun e => ?_)
    · have e := of_decide_eq_true e
      refine ⟨_, rfl, n, rfl, _, rfl, -n, d, rfl, rfl, ⟨by omega, by omega⟩, _, rfl, q' _ ?_⟩
      unfold rnd
      rw [if_pos e]
    · have e : ¬ n < 0 := fun z => e (decide_eq_true z)
      refine ⟨_, rfl, _, rfl, n, d, rfl, rfl, ⟨by omega, by omega⟩, q' _ ?_⟩
      unfold rnd
      rw [if_neg e]
def sp_limited : Sp := fun vs H Q _ => ∃ (n lo hi : Int), vs = [.int n, .int lo, .int hi] ∧ lo ≤ hi ∧ Q (.int (lim n lo hi)) H
theorem ok_limited (T : Txt K mg) : FnOk P w K mg base CX0 2 T.f_limited T.d_limited ["number", "least", "most"] sp_limited := by
  refine T.F_limited.ok sc_limited (fun vs H Q E h => ?_) (fun cdv A outer s H vs Q E hr h => ?_)
  · obtain ⟨n, lo, hi, rfl, _⟩ := h
    rfl
  · obtain ⟨n, lo, hi, rfl, h1, q⟩ := h
    refine ⟨_,
(pss_one (ps_ret (pe_callB (call_max2 rfl) (by rfl) T.z_max (by decide +kernel) (pa_cons (pv 1) (pa_cons (pe_callB (call_min2 rfl) (by rfl) T.z_min (by decide +kernel) (pa_cons (pv 0) (pa_cons (pv 2) pa_nil))) pa_nil)))))
, ?_⟩
    refine ⟨_, rfl, _, rfl, _, rfl, n, hi, rfl, lo, _, rfl, ?_⟩
    have e := lim_of (n := n) h1
    show Q (.int (if (if hi < n then hi else n) > lo then (if hi < n then hi else n) else lo)) H
    rw [e]
    exact q
def sp_change_at (K : PySem.W.Frag) : Sp := fun vs H Q _ => ∃ (c : V) (C : Cod) (k p : Nat), vs = [c, .int k, .int p] ∧ C.Ok ∧ Dp K H c C.dat ∧ k < C.moves.length ∧ p < C.steps.length ∧ Q (.int (C.chg k p)) H
theorem ok_change_at (T : Txt K mg) : FnOk P w K mg base CX0 3 T.f_change_at T.d_change_at ["coder", "code", "place"] (sp_change_at K) := by
  refine T.F_change_at.ok sc_change_at (fun vs H Q E h => ?_) (fun cdv A outer s H vs Q E hr h => ?_)
  · obtain ⟨c, C, k, p, rfl, _⟩ := h
    rfl
  · obtain ⟨c, C, k, p, rfl, O, hc, hk, hp, q⟩ := h
    obtain ⟨a, s, m, ms, rfl, ha, hs, hm, hmd⟩ := cod_at hc
    obtain ⟨t, ht, hT⟩ := move_at hmd hk
    refine ⟨_,
(pss_cons (ps_set (i := 3) sc_change_at.nd rfl (Or.inl rfl) (pe_ix ix_tup (pe_ix ix_tup (pe_ix ix_tup (pv 0) pe_int (fun _ _ => rfl)) (pv 1) (fun _ _ => rfl)) pe_int (fun _ _ => rfl)))
      (pss_one (ps_ret (pe_call (ok_rounded T) (hr.mono (by decide)) (by rfl) T.g_rounded T.F_rounded.kp T.b_rounded .nil pass0 (pa_cons (pe_op op_mul (pv 3) (pe_ix ix_tup (pe_ix ix_tup (pv 0) pe_int (fun _ _ => rfl)) (pv 2) (fun _ _ => rfl))) (pa_cons pe_int pa_nil))))))
, ?_⟩
    refine ⟨_, rfl, a, _, 3, _, rfl, rfl, ha, atI_nat (j := 3) rfl, _, rfl, m, _, k, _, rfl, rfl, hm, atI_nat ht, t, _, 0, _, rfl, rfl, hT, atI_nat (j := 0) rfl, ?_⟩
    refine ⟨_, rfl, _, rfl, a, _, 2, _, rfl, rfl, ha, atI_nat (j := 2) rfl, _, rfl, s, _, p, _, rfl, rfl, hs, atI_nat (step_at hp), _, _, rfl, rfl, ?_, ?_⟩
    · have hm3 : (C.moves.getD k (0, 0)) ∈ C.moves := by
        rw [List.getD_eq_getElem?_getD, List.getElem?_eq_getElem hk]
        exact List.getElem_mem hk
      have := O.m3 _ hm3
      exact .inl ⟨by omega, by omega⟩
    exact ⟨_, 8, rfl, by decide, by decide, q⟩
def sp_faded : Sp := fun vs H Q _ => ∃ (l f : Int), vs = [.int l, .int f] ∧ (f = 0 ∨ (2 ≤ f ∧ f ≤ 99)) ∧ Q (.int (fdd l f)) H
theorem ok_faded (T : Txt K mg) : FnOk P w K mg base CX0 3 T.f_faded T.d_faded ["level", "fade"] sp_faded := by
  refine T.F_faded.ok sc_faded (fun vs H Q E h => ?_) (fun cdv A outer s H vs Q E hr h => ?_)
  · obtain ⟨l, f, rfl, _⟩ := h
    rfl
  · obtain ⟨l, f, rfl, h1, q⟩ := h
    have q' : ∀ z, fdd l f = z → Q (.int z) H := fun z e => e ▸ q
    refine ⟨_,
(pss_cons (ps_if (pt_cmpR op_eq (pv 1) pe_int (nomark _)) (pss_one (ps_ret (pv 0))) pss_nil)
      (pss_one (ps_ret (pe_op op_sub (pv 0) (pe_call (ok_rounded T) (hr.mono (by decide)) (by rfl) T.g_rounded T.F_rounded.kp T.b_rounded .nil pass0 (pa_cons (pv 0) (pa_cons (pv 1) pa_nil)))))))
, ?_⟩
    refine ⟨_, rfl, rfl, _, rfl, ?_⟩
    refine ite2 (fun e => ?_) (fun e => ?_)
    · have e : f = 0 := V.int.inj (of_decide_eq_true e)
      refine ⟨_, rfl, q' _ ?_⟩
      unfold fdd
      rw [if_pos e]
    · have e : ¬ f = 0 := fun z => e (decide_eq_true (by rw [z]))
      refine ⟨_, rfl, _, rfl, _, rfl, l, f, rfl, by omega, by omega, _, _, rfl, rfl, q' _ ?_⟩
      unfold fdd
      rw [if_neg e]
def sd (s : Int × Int) : PyData := pairI s
/-- a state's pair, as it is read -/
def sp_state_behind (K : PySem.W.Frag) : Sp := fun vs H Q _ => ∃ (c x : V) (C : Cod) (s : Int × Int) (k : Nat), vs = [c, x, .int k] ∧ C.Ok ∧ Dp K H c C.dat ∧ Dp K H x (pairI s) ∧ C.St s ∧ k < C.moves.length ∧
  ∀ p, H p = none → Q (.ref p) (upd H p (.tup [.int (C.led s k).1, .int (C.led s k).2]))
set_option maxHeartbeats 4000000 in
theorem ok_state_behind (T : Txt K mg) : FnOk P w K mg base CX0 4 T.f_state_behind T.d_state_behind ["coder", "state", "code"] (sp_state_behind K) := by
  refine T.F_state_behind.ok sc_state_behind (fun vs H Q E h => ?_) (fun cdv A outer s H vs Q E hr h => ?_)
  · obtain ⟨c, x, C, s, k, rfl, _⟩ := h
    rfl
  · obtain ⟨c, x, C, st, k, rfl, O, hc, hx, hst, hk, q⟩ := h
    have hc' := hc
    obtain ⟨a, s, m, ms, rfl, ha, hs, hm, hmd⟩ := cod_at hc
    obtain ⟨t, ht, hT⟩ := move_at hmd hk
    obtain ⟨b, rfl, hb⟩ := dp_pair hx
    obtain ⟨i1, i2, i3, i4⟩ := hst
    refine ⟨_,
(pss_cons (ps_asg (pv 0) (pg_tup (by rfl) (pgs_cons (pg_name (i := 3) sc_state_behind.nd rfl (Or.inl rfl)) (pgs_cons (pg_name (i := 4) sc_state_behind.nd rfl (Or.inl rfl)) (pgs_cons (pg_name (i := 5) sc_state_behind.nd rfl (Or.inl rfl)) (pgs_cons (pg_name (i := 6) sc_state_behind.nd rfl (Or.inl rfl)) (pgs_cons (pg_name (i := 7) sc_state_behind.nd rfl (Or.inl rfl)) pgs_nil)))))))
      (pss_cons (ps_asg (pv 1) (pg_tup (by rfl) (pgs_cons (pg_name (i := 8) sc_state_behind.nd rfl (Or.inl rfl)) (pgs_cons (pg_name (i := 9) sc_state_behind.nd rfl (Or.inl rfl)) pgs_nil))))
      (pss_cons (ps_set (i := 10) sc_state_behind.nd rfl (Or.inl rfl) (pe_ix ix_tup (pe_ix ix_tup (pv 6) (pv 2) (fun _ _ => rfl)) pe_int (fun _ _ => rfl)))
      (pss_cons (ps_set (i := 11) sc_state_behind.nd rfl (Or.inl rfl) (pe_op op_add (pe_call (ok_faded T) (hr.mono (by decide)) (by rfl) T.g_faded T.F_faded.kp T.b_faded .nil pass0 (pa_cons (pv 8) (pa_cons (pv 7) pa_nil))) (pe_call (ok_change_at T) (hr.mono (by decide)) (by rfl) T.g_change_at T.F_change_at.kp T.b_change_at .nil pass0 (pa_cons (pv 0) (pa_cons (pv 2) (pa_cons (pv 9) pa_nil))))))
      (pss_one (ps_ret (pe_tup (pa_cons (pe_call (ok_limited T) (hr.mono (by decide)) (by rfl) T.g_limited T.F_limited.kp T.b_limited .nil pass0 (pa_cons (pv 11) (pa_cons (pv 3) (pa_cons (pv 4) pa_nil)))) (pa_cons (pe_call (ok_limited T) (hr.mono (by decide)) (by rfl) T.g_limited T.F_limited.kp T.b_limited .nil pass0 (pa_cons (pe_op op_add (pv 9) (pv 10)) (pa_cons pe_int (pa_cons (pe_op op_sub (pe_callB call_len_seq (by rfl) T.z_len (by decide +kernel) (pa_cons (pv 5) pa_nil)) pe_int) pa_nil)))) pa_nil)))))))))
, ?_⟩
    refine ⟨_, rfl, a, _, rfl, ha, rfl, _, _, rfl, _, _, rfl, _, _, rfl, _, _, rfl, _, _, rfl, rfl, ?_⟩
    refine ⟨_, rfl, b, _, rfl, hb, rfl, _, _, rfl, _, _, rfl, rfl, ?_⟩
    refine ⟨_, rfl, _, rfl, m, _, k, _, rfl, rfl, hm, atI_nat ht, t, _, 1, _, rfl, rfl, hT, atI_nat (j := 1) rfl, ?_⟩
    refine ⟨_, rfl, _, rfl, st.1, C.fade, rfl, O.f1, ?_⟩
    have e2 : st.2 = (st.2.toNat : Int) := by omega
    refine ⟨_, rfl, _, rfl, _, rfl, .ref a, C, k, st.2.toNat, by show [V.ref a, V.int k, V.int st.2] = _; rw [← e2], O, hc', hk, by omega, _, _, rfl, rfl, ?_⟩
    refine ⟨_, rfl, _, rfl, _, rfl, _, _, _, rfl, by have := O.l2; have := O.h1; omega, ?_⟩
    refine ⟨.int st.2, rfl, .int (C.moves.getD k (0, 0)).2, rfl, st.2, (C.moves.getD k (0, 0)).2, rfl, rfl, .ref s, rfl, s, C.steps.map V.int, rfl, .inr hs, ((C.steps.map V.int).length : Int), 1, rfl, rfl, ?_⟩
    refine ⟨st.2 + (C.moves.getD k (0, 0)).2, 0, ((C.steps.map V.int).length : Int) - 1, rfl, ?_, ?_⟩
    · show (0 : Int) ≤ ((C.steps.map V.int).length : Int) - 1
      rw [List.length_map]
      have := O.s1
      omega
    refine ⟨by show 2 ≤ sizeLine; decide, fun p hp => ?_⟩
    have := q p hp
    unfold Cod.led at this
    have e : ((C.steps.map V.int).length : Int) = (C.steps.length : Int) := by rw [List.length_map]
    rw [← e] at this
    exact this
end
end My

namespace My
open PySem PySem.Spec PyProof.Rows L2
def Cod.run (C : Cod) (s : Int × Int) : List Nat → Int × Int
  | [] => s
  | k :: r => Cod.run C (C.led s k) r
def Cod.lev (C : Cod) (s : Int × Int) : List Nat → List Int
  | [] => []
  | k :: r => (C.led s k).1 :: Cod.lev C (C.led s k) r
theorem run_snoc {C : Cod} : ∀ (r : List Nat) (s : Int × Int) (k : Nat), C.run s (r ++ [k]) = C.led (C.run s r) k
  | [], _, _ => rfl
  | j :: r, s, k => run_snoc r (C.led s j) k
theorem run_app {C : Cod} : ∀ (r : List Nat) (s : Int × Int) (q : List Nat), C.run s (r ++ q) = C.run (C.run s r) q
  | [], _, _ => rfl
  | j :: r, s, q => run_app r (C.led s j) q
theorem lev_snoc {C : Cod} : ∀ (r : List Nat) (s : Int × Int) (k : Nat), C.lev s (r ++ [k]) = C.lev s r ++ [(C.led (C.run s r) k).1]
  | [], _, _ => rfl
  | j :: r, s, k => by
    show (C.led s j).1 :: C.lev (C.led s j) (r ++ [k]) = _
    rw [lev_snoc r (C.led s j) k]
    rfl
theorem lev_app {C : Cod} : ∀ (r : List Nat) (s : Int × Int) (q : List Nat), C.lev s (r ++ q) = C.lev s r ++ C.lev (C.run s r) q
  | [], _, _ => rfl
  | j :: r, s, q => by
    show (C.led s j).1 :: C.lev (C.led s j) (r ++ q) = _
    rw [lev_app r (C.led s j) q]
    rfl
theorem lev_len {C : Cod} : ∀ (r : List Nat) (s : Int × Int), (C.lev s r).length = r.length
  | [], _ => rfl
  | j :: r, s => congrArg (· + 1) (lev_len r (C.led s j))
theorem run_St {C : Cod} (O : C.Ok) : ∀ (r : List Nat) {s : Int × Int}, C.St s → C.St (C.run s r)
  | [], _, h => h
  | k :: r, s, _ => run_St O r (C.led_St O s k)
theorem lev_in {C : Cod} (O : C.Ok) : ∀ (r : List Nat) (s : Int × Int), ∀ z ∈ C.lev s r, C.low ≤ z ∧ z ≤ C.high
  | [], _, _, h => by cases h
  | k :: r, s, z, h => by
    rcases List.mem_cons.mp h with e | e
    · rw [e]
      have := C.led_St O s k
      exact ⟨this.1, this.2.1⟩
    · exact lev_in O r _ z e
def rowI (r : List Nat) : PyData := .tuple (r.map fun k : Nat => PyData.int (k : Int))
def rowV (r : List Nat) : List V := r.map fun k : Nat => V.int (k : Int)
structure Cod.Row (C : Cod) (r : List Nat) : Prop where
  len : r.length ≤ 2000
  lt : ∀ k ∈ r, k < C.moves.length
theorem Cod.St.ok {C : Cod} {s : Int × Int} (h : C.St s) : stateD C (pairI s) = true := by
  show (btw (.int s.1) _ _ && btw (.int s.2) _ _) = true
  rw [btw_in h.1 h.2.1, btw_in h.2.2.1 (by have := h.2.2.2; omega)]
  rfl
theorem dpAll_row {K : PySem.W.Frag} {H : Hp} : ∀ {r : List Nat} {xs : List V}, DpAll K H xs (r.map fun k : Nat => PyData.int (k : Int)) → xs = rowV r
  | [], _, h => by cases h; rfl
  | n :: r, _, h => by
    cases h with
    | cons a b =>
      cases a
      rw [dpAll_row b]
      rfl
theorem row_at {K : PySem.W.Frag} {H : Hp} {v : V} {r : List Nat} (h : Dp K H v (rowI r)) : ∃ a, v = .ref a ∧ SqT K H a (rowV r) := by
  obtain ⟨a, xs, rfl, ha, hd⟩ := dp_tup h
  rw [dpAll_row hd] at ha
  exact ⟨a, rfl, ha⟩
theorem rowV_get {r : List Nat} {i : Nat} {x : V} (h : (rowV r)[i]? = some x) : ∃ k, r[i]? = some k ∧ x = .int (k : Int) := by
  unfold rowV at h
  rw [List.getElem?_map] at h
  cases e : r[i]? with
  | none => rw [e] at h; cases h
  | some k => rw [e] at h; exact ⟨k, rfl, (Option.some.inj h).symm⟩
theorem take_snoc {α : Type} {r : List α} {i : Nat} {k : α} (h : r[i]? = some k) : r.take (i + 1) = r.take i ++ [k] := by
  rw [List.take_add_one, h]
  rfl
/-- a tuple stands while a list is changed -/
theorem sqt_set {K : PySem.W.Frag} {H : Hp} {p a : Addr} {ys xs : List V} {o : HO} (hp : H p = some (.lst ys)) (h : SqT K H a xs) : SqT K (upd H p o) a xs := by
  rcases h with (h | ⟨u, h⟩) | h
  · exact .inl (.inl ((upd_ne (ne_of h hp nofun)).trans h))
  · exact .inl (.inr ⟨u, (upd_ne (ne_of h hp nofun)).trans h⟩)
  · exact .inr h
theorem dp_mkpair {K : PySem.W.Frag} {H : Hp} {a : Addr} {s : Int × Int} (h : SqT K H a [.int s.1, .int s.2]) : Dp K H (.ref a) (pairI s) := .tup h (.cons (.int _) (.cons (.int _) .nil))
theorem dp_tints {K : PySem.W.Frag} {H : Hp} {a : Addr} {ns : List Int} (h : SqT K H a (ns.map V.int)) : Dp K H (.ref a) (.tuple (ns.map .int)) := by
  refine .tup h ?_
  clear h
  induction ns with
  | nil => exact .nil
  | cons n r ih => exact .cons (.int n) ih
end My

namespace My
open PySem PySem.Spec PyProof.Rows L2
theorem dg_l {H : Hp} {m c l : Addr} {k : Int} (h : H m = some (.dK (dd c l k))) : DGet H m (.str "left") (some (.ref l)) := by
  have e := DGet.k (k := .inr "left") h
  rw [dd_l] at e
  exact e
theorem dg_c {H : Hp} {m c l : Addr} {k : Int} (h : H m = some (.dK (dd c l k))) : DGet H m (.str "cells") (some (.ref c)) := by
  have e := DGet.k (k := .inr "cells") h
  rw [dd_c] at e
  exact e
theorem dg_a {H : Hp} {m c l : Addr} {k : Int} (h : H m = some (.dK (dd c l k))) : DGet H m (.str "at") (some (.int k)) := by
  have e := DGet.k (k := .inr "at") h
  rw [dd_a] at e
  exact e
theorem dp_l {H : Hp} {m c l p : Addr} {k : Int} (h : H m = some (.dK (dd c l k))) : DPut H m (.str "left") (.ref p) (upd H m (.dK (dd c p k))) := by
  have e := DPut.k (k := .inr "left") (v := .ref p) h (by show 3 < sizeLine; decide)
  rw [dd_pl] at e
  exact e
theorem dp_a {H : Hp} {m c l : Addr} {k z : Int} (h : H m = some (.dK (dd c l k))) : DPut H m (.str "at") (.int z) (upd H m (.dK (dd c l z))) := by
  have e := DPut.k (k := .inr "at") (v := .int z) h (by show 3 < sizeLine; decide)
  rw [dd_pa] at e
  exact e
def pis (ns : List Int) : List PyData := ns.map .int
theorem dp_ints {K : PySem.W.Frag} {H : Hp} : ∀ ns : List Int, DpAll K H (ns.map V.int) (pis ns)
  | [] => .nil
  | n :: r => .cons (.int n) (dp_ints r)
theorem lay_ints : ∀ ns : List Int, PyData.canLayAll0 (pis ns) = true ∧ PyData.depthAll (pis ns) = 0
  | [] => ⟨rfl, rfl⟩
  | n :: r => by
    obtain ⟨h1, h2⟩ := lay_ints r
    exact ⟨by show ((PyData.int n).canLay0 && PyData.canLayAll0 (pis r)) = true; rw [h1]; rfl, by show max 0 (PyData.depthAll (pis r)) = 0; rw [h2]; rfl⟩
theorem shaped_ints (ns : List Int) : SeqAt.shaped (.list (pis ns)) = true := by
  obtain ⟨h1, h2⟩ := lay_ints ns
  show (PyData.canLayAll0 (pis ns) && decide (PyData.depthAll (pis ns) + 1 ≤ 64)) = true
  rw [h1, h2]
  rfl
theorem eqv_nil (ns : List Int) : PyData.eqv (.list (pis ns)) (.list []) = ns.isEmpty := by
  cases ns <;> rfl
section
variable {P : Program} {w : World} {K : PySem.W.Frag} {mg : Str → Option Value} {base : Heap}
theorem ixN_nat {n j : Nat} (h : j < n) : ixN n (j : Int) = some j := by
  unfold ixN
  rw [if_pos (by omega), if_pos (by omega)]
  simp
def sp_law_next : Sp := fun vs H Q _ => ∃ (m c l : Addr) (n : Nat) (many : Int), vs = [.ref m, .int many] ∧ 0 < many ∧ many < 2 ^ 100 ∧ Dr H m c l (n + 1) ∧
  ∀ (r : Int) (l' : Addr) (H' : Hp), 0 ≤ r → r < many → Kp m l H l' H' → Dr H' m c l' n → Q (.int r) H'
theorem ok_law_next (T : Txt K mg) : FnOk P w K mg base CX0 2 T.f__law_next T.d__law_next ["m", "many"] sp_law_next := by
  refine T.F__law_next.ok sc_law_next (fun vs H Q E h => ?_) (fun cdv A outer s H vs Q E hr h => ?_)
  · obtain ⟨m, c, l, n, many, rfl, _⟩ := h
    rfl
  · obtain ⟨m, c, l, n, many, rfl, p1, p2, D, q⟩ := h
    have hu := hu_of hr
    refine ⟨_,
(pss_cons (ps_while PassesOwn.never (PW.pt (pw_and (pt_cmpR (op_neD hr.units) (pe_dget hu (pv 0) pe_str (fun _ _ => rfl)) (pe_lst pa_nil) (nomark _)) (pw_and1 (pt_cmpR op_eq (pe_ix ix_list (pe_dget hu (pv 0) pe_str (fun _ _ => rfl)) pe_int (fun _ _ => rfl)) pe_int (nomark _))))) (pss_one (ps_dput hu (pv 0) pe_str (pe_slice sl_list (pe_dget hu (pv 0) pe_str (fun _ _ => rfl)) (po_some pe_int) po_none) rfl)))
      (pss_cons (ps_if (pt_cmpR (op_neD hr.units) (pe_dget hu (pv 0) pe_str (fun _ _ => rfl)) (pe_lst pa_nil) (nomark _)) (pss_cons (ps_set (i := 2) sc_law_next.nd rfl (Or.inl rfl) (pe_callTy call_int1 (by rfl) T.z_int (by decide +kernel) (pa_cons (pe_ix ix_list (pe_dget hu (pv 0) pe_str (fun _ _ => rfl)) pe_int (fun _ _ => rfl)) pa_nil)))
      (pss_cons (ps_asg (pe_op op_fdivW (pv 2) (pv 1)) (pg_sub (pe_dget hu (pv 0) pe_str (fun _ _ => rfl)) pe_int set_list))
      (pss_one (ps_ret (pe_op op_modN (pv 2) (pv 1)))))) pss_nil)
      (pss_cons (ps_set (i := 3) sc_law_next.nd rfl (Or.inl rfl) (pe_op op_add (pe_dget hu (pv 0) pe_str (fun _ _ => rfl)) pe_int))
      (pss_cons (ps_dput hu (pv 0) pe_str (pv 3) rfl)
      (pss_cons (ps_set (i := 4) sc_law_next.nd rfl (Or.inl rfl) (pe_ifExp (pt_cmpR (op_neD hr.units) (pe_dget hu (pv 0) pe_str (fun _ _ => rfl)) (pe_lst pa_nil) (nomark _)) (pe_ix ix_list (pe_dget hu (pv 0) pe_str (fun _ _ => rfl)) (pe_op op_modN (pe_callTy call_int1 (by rfl) T.z_int (by decide +kernel) (pa_cons (pv 3) pa_nil)) (pe_callB call_len_seq (by rfl) T.z_len (by decide +kernel) (pa_cons (pe_dget hu (pv 0) pe_str (fun _ _ => rfl)) pa_nil))) (fun _ _ => rfl)) pe_int))
      (pss_cons (ps_set (i := 5) sc_law_next.nd rfl (Or.inl rfl) (pe_op op_mul (pe_callTy call_int1 (by rfl) T.z_int (by decide +kernel) (pa_cons (pe_op op_add (pe_op op_add (pe_op op_modN (pe_callTy call_int1 (by rfl) T.z_int (by decide +kernel) (pa_cons (pv 4) pa_nil)) pe_int) (pe_op op_mul pe_int (pv 3))) (pe_op op_mul (pe_op op_mul pe_int (pv 3)) (pv 3))) pa_nil)) pe_int))
      (pss_cons (ps_set (i := 5) sc_law_next.nd rfl (Or.inl rfl) (pe_op op_mul (pe_callTy call_int1 (by rfl) T.z_int (by decide +kernel) (pa_cons (pe_op op_add (pe_op op_modN (pe_callTy call_int1 (by rfl) T.z_int (by decide +kernel) (pa_cons (pv 5) pa_nil)) pe_int) (pe_op op_mul pe_int (pv 3))) pa_nil)) pe_int))
      (pss_one (ps_ret (pe_op op_modN (pe_callTy call_int1 (by rfl) T.z_int (by decide +kernel) (pa_cons (pe_op op_fdivN (pe_op op_modN (pe_callTy call_int1 (by rfl) T.z_int (by decide +kernel) (pa_cons (pv 5) pa_nil)) pe_int) pe_int) pa_nil)) (pv 1)))))))))))
, ?_⟩
    refine st_tail (fun σ H' => ∃ (l' : Addr), σ = [some (.ref m), some (.int many), none, none, none, none] ∧ Kp m l H l' H' ∧ Dr H' m c l' (n + 1)) ?_ fun tail => ?_
    · rintro σ H1 ⟨l1, rfl, kp, D1⟩
      obtain ⟨cs, ls, k, h1, h2, h3, ncl, lc, ll, pos, k0, kn⟩ := D1.ex
      have nml : m ≠ l1 := ne_of h1 h3 nofun
      have nmc : m ≠ c := ne_of h1 h2 nofun
      -- if m['left'] != []
      refine ⟨_, rfl, m, .ref l1, rfl, dg_l h1, Nat.zero_le _, fun p hp => ?_⟩
      have g1 := same_new (o := .lst []) hp _ _ h1
      have g2 := same_new (o := .lst []) hp _ _ h2
      have g3 := same_new (o := .lst []) hp _ _ h3
      refine ⟨.list (pis ls), .list [], .lst (SqL.of g3) (dp_ints ls), .lst (SqL.of upd_same) .nil, shaped_ints ls, by rfl, _, rfl, ?_⟩
      rw [eqv_nil]
      have kp2 : Kp m l H l1 (upd H1 p (.lst [])) := kp.trans (Kp.new hp)
      have D2 : Dr (upd H1 p (.lst [])) m c l1 (n + 1) := D1.new hp
      cases ls with
      | cons x r =>
        refine iteT ?_
        have x0 : 0 ≤ x := pos x List.mem_cons_self
        refine ⟨_, rfl, m, .ref l1, rfl, dg_l g1, l1, _, 0, .int x, rfl, rfl, SqL.of g3, atI_nat (j := 0) rfl, .inl ⟨x, rfl, ?_⟩⟩
        -- m['left'][0] = rest // many
        refine ⟨_, rfl, _, rfl, x, many, rfl, rfl, wide_div (b := 100) p1 (by omega) (by decide) (by decide), _, rfl, m, .ref l1, rfl, dg_l g1, l1, _, 0, 0, rfl, rfl, g3, ixN_nat (j := 0) (by simp), ?_⟩
        refine ⟨_, rfl, _, rfl, x, many, rfl, rfl, by omega, ?_⟩
        show Q (.int (x.fmod many)) (upd (upd H1 p (.lst [])) l1 (.lst (((x / many) :: r).map V.int)))
        rw [Int.fmod_eq_emod_of_nonneg x (by omega)]
        refine q _ l1 _ (Int.emod_nonneg _ (by omega)) (Int.emod_lt_of_pos _ p1) ⟨fun b o hb n1 n2 => ?_, kp2.nw, fun b hb => ?_⟩ ⟨cs, (x / many) :: r, k, ?_, ?_, ?_, ncl, lc, ll, ?_, k0, by omega⟩
        · have e := kp2.st b o hb n1 n2
          rw [upd_ne (kp2.off hb n2)]
          exact e
        · refine kp2.dm b ?_
          unfold upd at hb ⊢
          split at hb
          · cases hb
          · exact hb
        · rw [upd_ne nml]; exact g1
        · rw [upd_ne ncl]; exact g2
        · exact upd_same
        · intro y hy
          rcases List.mem_cons.mp hy with e | e
          · rw [e]; exact Int.ediv_nonneg x0 (by omega)
          · exact pos y (List.mem_cons_of_mem _ e)
      | nil =>
        refine iteF ?_
        refine ⟨_, rfl, m, .int k, rfl, dg_a g1, _, _, rfl, rfl, _, rfl, _, rfl, m, _, rfl, dp_a g1, ?_⟩
        have a1 : (upd (upd H1 p (.lst [])) m (.dK (dd c l1 (k + 1)))) m = some (.dK (dd c l1 (k + 1))) := upd_same
        have a2 := (upd_ne (H := upd H1 p (.lst [])) (o := .dK (dd c l1 (k + 1))) nmc.symm).trans g2
        have a3 := (upd_ne (H := upd H1 p (.lst [])) (o := .dK (dd c l1 (k + 1))) nml.symm).trans g3
        have kp3 : Kp m l H l1 (upd (upd H1 p (.lst [])) m (.dK (dd c l1 (k + 1)))) := ⟨fun b o hb n1 n2 => (upd_ne n1).trans (kp2.st b o hb n1 n2), kp2.nw, fun b hb => kp2.dm b (by
          unfold upd at hb ⊢
          split at hb
          · cases hb
          · exact hb)⟩
        have D3 : Dr (upd (upd H1 p (.lst [])) m (.dK (dd c l1 (k + 1)))) m c l1 n := ⟨cs, [], k + 1, a1, a2, a3, ncl, lc, ll, pos, by omega, by omega⟩
        generalize upd (upd H1 p (.lst [])) m (.dK (dd c l1 (k + 1))) = H3 at a1 a2 a3 kp3 D3
        -- cell
        dsimp only
        refine st_tail (fun σ H' => ∃ (z : Int), σ = [some (.ref m), some (.int many), none, some (.int (k + 1)), some (.int z), none] ∧ Kp m l H l1 H' ∧ Dr H' m c l1 n) ?_ fun tail => ?_
        · rintro σ H4 ⟨z, rfl, kp4, D4⟩
          have kb : k + 1 ≤ 1000000 := by omega
          refine ⟨_, rfl, .inl ⟨z, rfl, _, _, rfl, rfl, (show (2147483629 : Int) ≠ 0 by decide), _, rfl, _, _, rfl, rfl, .inl ⟨by decide, by decide⟩, _, _, rfl, rfl, _, rfl, _, _, rfl, rfl, .inl ⟨by decide, by decide⟩,
            _, rfl, _, _, rfl, rfl, .inl ⟨by show -(2 ^ 64) < 19 * (k + 1); omega, by show 19 * (k + 1) < 2 ^ 64; omega⟩, _, _, rfl, rfl, .inl ⟨_, rfl, _, _, rfl, rfl, .inr ⟨by decide, by decide⟩, ?_⟩⟩⟩
          refine ⟨_, rfl, .inl ⟨_, rfl, _, _, rfl, rfl, (show (2147483647 : Int) ≠ 0 by decide), _, rfl, _, _, rfl, rfl, .inl ⟨by decide, by decide⟩, _, _, rfl, rfl, .inl ⟨_, rfl, _, _, rfl, rfl, .inr ⟨by decide, by decide⟩, ?_⟩⟩⟩
          refine ⟨_, rfl, .inl ⟨_, rfl, _, _, rfl, rfl, (show (2147483587 : Int) ≠ 0 by decide), _, _, rfl, rfl, ⟨by decide, by decide⟩, .inl ⟨_, rfl, _, rfl, _, _, rfl, rfl, by omega, ?_⟩⟩⟩
          refine q _ l1 _ ?_ ?_ kp4 D4
          · rw [Int.fmod_eq_emod_of_nonneg _ (by omega)]
            exact Int.emod_nonneg _ (by omega)
          · rw [Int.fmod_eq_emod_of_nonneg _ (by omega)]
            exact Int.emod_lt_of_pos _ p1
        refine ⟨_, rfl, m, .ref c, rfl, dg_c a1, Nat.zero_le _, fun p' hp' => ?_⟩
        have b1 := same_new (o := .lst []) hp' _ _ a1
        have b2 := same_new (o := .lst []) hp' _ _ a2
        refine ⟨.list (pis cs), .list [], .lst (SqL.of b2) (dp_ints cs), .lst (SqL.of upd_same) .nil, shaped_ints cs, by rfl, _, rfl, ?_⟩
        rw [eqv_nil]
        have kp4 : Kp m l H l1 (upd H3 p' (.lst [])) := kp3.trans (Kp.new hp')
        have D4 : Dr (upd H3 p' (.lst [])) m c l1 n := D3.new hp'
        cases cs with
        | nil =>
          refine iteF ?_
          exact tail _ _ ⟨3, rfl, kp4, D4⟩
        | cons y r =>
          refine iteT ?_
          obtain ⟨j, z, hj⟩ : ∃ (j : Nat) (z : Int), (k + 1).fmod (((y :: r).map V.int).length : Int) = (j : Int) ∧ ((y :: r).map V.int)[j]? = some (.int z) := by
            have hl : (0 : Int) < (((y :: r).map V.int).length : Int) := by
              show (0 : Int) < (((r.map V.int).length + 1 : Nat) : Int)
              omega
            rw [Int.fmod_eq_emod_of_nonneg _ (by omega)]
            have e1 := Int.emod_nonneg (k + 1) (b := (((y :: r).map V.int).length : Int)) (by omega)
            have e2 := Int.emod_lt_of_pos (k + 1) hl
            have hj : ((k + 1) % (((y :: r).map V.int).length : Int)).toNat < (y :: r).length := by
              have : ((y :: r).map V.int).length = (y :: r).length := List.length_map ..
              omega
            refine ⟨((k + 1) % (((y :: r).map V.int).length : Int)).toNat, (y :: r)[((k + 1) % (((y :: r).map V.int).length : Int)).toNat], by omega, ?_⟩
            rw [List.getElem?_map, List.getElem?_eq_getElem hj]
            rfl
          refine ⟨_, rfl, m, .ref c, rfl, dg_c b1, _, rfl, .inl ⟨_, rfl, _, rfl, m, .ref c, rfl, dg_c b1, c, _, rfl, .inl (SqL.of b2), _, _, rfl, rfl, by show (((y :: r).map V.int).length : Int) ≠ 0; simp; omega, c, _, _, .int z, rfl, rfl, SqL.of b2, ?_, ?_⟩⟩
          · show atI _ ((k + 1).fmod (((y :: r).map V.int).length : Int)) = some _
            rw [hj.1]
            exact atI_nat hj.2
          exact tail _ _ ⟨z, rfl, kp4, D4⟩
    -- the loop
    refine ⟨fun cnt σ H' => ∃ (l' : Addr) (cs ls : List Int) (k : Int), σ = [some (.ref m), some (.int many), none, none, none, none] ∧ Kp m l H l' H' ∧ ls.length = cnt ∧
      H' m = some (.dK (dd c l' k)) ∧ H' c = some (.lst (cs.map V.int)) ∧ H' l' = some (.lst (ls.map V.int)) ∧ c ≠ l' ∧
      cs.length ≤ 63 ∧ ls.length ≤ 63 ∧ (∀ x ∈ ls, 0 ≤ x) ∧ 0 ≤ k ∧ k + ((n + 1 : Nat) : Int) ≤ 1000000, ?_, ?_⟩
    · obtain ⟨cs, ls, k, r⟩ := D.ex
      exact ⟨ls.length, l, cs, ls, k, rfl, Kp.refl m l H, rfl, r⟩
    rintro cnt σ H1 ⟨l1, cs, ls, k, rfl, kp, hcnt, h1, h2, h3, ncl, lc, ll, pos, k0, kn⟩
    have nml : m ≠ l1 := ne_of h1 h3 nofun
    have nmc : m ≠ c := ne_of h1 h2 nofun
    refine ⟨_, rfl, m, .ref l1, rfl, dg_l h1, Nat.zero_le _, fun p hp => ?_⟩
    have g1 := same_new (o := .lst []) hp _ _ h1
    have g2 := same_new (o := .lst []) hp _ _ h2
    have g3 := same_new (o := .lst []) hp _ _ h3
    have kp2 : Kp m l H l1 (upd H1 p (.lst [])) := kp.trans (Kp.new hp)
    have D2 : Dr (upd H1 p (.lst [])) m c l1 (n + 1) := ⟨cs, ls, k, g1, g2, g3, ncl, lc, ll, pos, k0, kn⟩
    refine ⟨.list (pis ls), .list [], .lst (SqL.of g3) (dp_ints ls), .lst (SqL.of upd_same) .nil, shaped_ints ls, by rfl, _, rfl, ?_⟩
    rw [eqv_nil]
    cases ls with
    | nil =>
      refine iteF ?_
      refine iteF ?_
      exact tail _ _ ⟨l1, rfl, kp2, D2⟩
    | cons x r =>
      refine iteT ?_
      refine ⟨_, rfl, m, .ref l1, rfl, dg_l g1, l1, _, 0, .int x, rfl, rfl, SqL.of g3, atI_nat (j := 0) rfl, rfl, _, rfl, ?_⟩
      refine ite2 (fun e => ?_) (fun e => tail _ _ ⟨l1, rfl, kp2, D2⟩)
      generalize upd H1 p (.lst []) = H3 at g1 g2 g3 kp2 D2
      refine ⟨_, fun σ' H' hN => hN, ?_⟩
      refine ⟨_, rfl, m, .ref l1, rfl, dg_l g1, 1, rfl, l1, _, rfl, SqL.of g3, fun p2 hp2 => ⟨_, rfl, m, _, rfl, dp_l (same_new hp2 _ _ g1), ?_⟩⟩
      have np1 : p2 ≠ m := (ne_of_none g1 hp2).symm
      have np2 : p2 ≠ c := (ne_of_none g2 hp2).symm
      refine ⟨r.length, by rw [← hcnt]; simp, p2, cs, r, k, rfl, ⟨fun b o hb q1 q2 => ?_, ?_, fun b hb => ?_⟩, rfl, upd_same, (upd_ne nmc.symm).trans ((upd_ne np2.symm).trans g2), (upd_ne np1).trans ?_, np2.symm, lc, by simp at ll ⊢; omega, fun y hy => pos y (List.mem_cons_of_mem _ hy), k0, kn⟩
      · have e := kp2.st b o hb q1 q2
        rw [upd_ne q1, upd_ne (ne_of_none e hp2)]
        exact e
      · exact .inr (kp2.dm _ hp2)
      · refine kp2.dm b ?_
        unfold upd at hb
        split at hb
        · cases hb
        · split at hb
          · cases hb
          · exact hb
      · rw [upd_same]
        unfold cutV
        rw [HT.sIx_none, show HT.sIx ((x :: r).map V.int).length 0 (some 1) = min 1 ((x :: r).map V.int).length from HT.sIx_nat _ 0 1, show min 1 ((x :: r).map V.int).length = 1 by simp]
        show some (HO.lst (List.take (((x :: r).map V.int).length - 1) (r.map V.int))) = _
        rw [List.take_of_length_le (by simp)]
def sp_law_begun (K : PySem.W.Frag) : Sp := fun vs H Q _ => ∃ (a : Addr) (ns : List Int), vs = [.ref a] ∧ SqL K H a (ns.map V.int) ∧ ns.length ≤ 63 ∧
  ∀ (m c l : Addr) (H' : Hp), Same H H' → H m = none → H c = none → H l = none → Dr H' m c l 900000 → Q (.ref m) H'
theorem ok_law_begun (T : Txt K mg) : FnOk P w K mg base CX0 2 T.f__law_begun T.d__law_begun ["script"] (sp_law_begun K) := by
  refine T.F__law_begun.ok sc_law_begun (fun vs H Q E h => ?_) (fun cdv A outer s H vs Q E hr h => ?_)
  · obtain ⟨a, ns, rfl, _⟩ := h
    rfl
  · obtain ⟨a, ns, rfl, hS, hl, q⟩ := h
    have hu := hu_of hr
    refine ⟨_,
(pss_one (ps_ret (pe_disp (pps_cons pe_str (pe_callTy call_list_of (by rfl) T.z_list (by decide +kernel) (pa_cons (pv 0) pa_nil)) (pps_cons pe_str (pe_lc (own := [("cell", 1)]) rfl sc_law_begun.nd (pi_list (pv 0)) (blkOk_by (own := [("cell", 1)]) (N := ["script", "cell"]) (sc := defScope s_law_begun) (by decide +kernel)) (fun _ _ _ _ _ => (pg_name (i := 1) sc_law_begun.nd rfl (Or.inl rfl))) (fun _ _ _ _ _ => pts_one (pt_cmpR op_ge (pv 1) (pe_op op_pow pe_int pe_int) (nomark _))) (fun _ _ _ _ _ => (pv 1))) (pps_cons pe_str pe_int pps_nil))) (by rfl) (by rfl) (fun z => by cases z) (by decide))))
, ?_⟩
    intro p hp
    have s1 : Same H (upd H p (.dK [])) := same_new hp
    refine ⟨.ref a, rfl, a, _, rfl, .inl (s1.seq hS), fun c hc => ?_⟩
    have s2 := s1.trans (same_new (o := .lst (ns.map V.int)) hc)
    have ncp : p ≠ c := fun e => by rw [← e, upd_same] at hc; cases hc
    have e1 : upd (upd H p (.dK [])) c (.lst (ns.map V.int)) p = some (.dK []) := (upd_ne ncp).trans upd_same
    have e2 : upd (upd H p (.dK [])) c (.lst (ns.map V.int)) c = some (.lst (ns.map V.int)) := upd_same
    have hc0 : H c = none := s1.free hc
    generalize upd (upd H p (.dK [])) c (.lst (ns.map V.int)) = H1 at s2 e1 e2
    refine ⟨.ref a, rfl, a, rfl, ⟨_, s2.seq hS⟩, fun l hD => ?_⟩
    have nlp : p ≠ l := ne_of_none e1 hD
    have nlc : c ≠ l := ne_of_none e2 hD
    have hl0 : H l = none := s2.free hD
    refine lc_list (K := K) (a := a) (xs := ns.map V.int) (fun i H' => ∃ ls : List Int, ls.length ≤ i ∧ (∀ x ∈ ls, 0 ≤ x) ∧ H' = upd H1 l (.lst (ls.map V.int))) ⟨[], by simp, by simp, rfl⟩ ?_ ?_ ?_
    · rintro i H' _ ⟨ls, _, _, rfl⟩
      exact (same_new hD).seq (s2.seq hS)
    · rintro i x H' hx ⟨ls, h1, h2, rfl⟩
      obtain ⟨z, rfl⟩ : ∃ z, x = V.int z := by
        rw [List.getElem?_map] at hx
        cases e : ns[i]? with
        | none => rw [e] at hx; cases hx
        | some z => rw [e] at hx; exact ⟨z, (Option.some.inj hx).symm⟩
      have hi : i < 63 := by
        have := (List.getElem?_eq_some_iff.mp hx).1
        rw [List.length_map] at this
        omega
      refine ⟨rfl, _, rfl, 10, 18, rfl, rfl, ⟨by decide, by decide, by decide⟩, z, 1000000000000000000, rfl, rfl, _, rfl, ?_⟩
      refine ite2 (fun e => ?_) (fun e => ⟨ls, by omega, h2, rfl⟩)
      refine ⟨.int z, rfl, _, upd_same, ?_, ls ++ [z], ?_, ?_, ?_⟩
      · rw [List.length_map]; exact small1000 (by omega)
      · simp; omega
      · intro y hy
        rcases List.mem_append.mp hy with k | k
        · exact h2 y k
        · rw [List.mem_singleton.mp k]
          have := of_decide_eq_true e
          omega
      · rw [upd_upd, List.map_append]
        rfl
    · rintro H' ⟨ls, h1, h2, rfl⟩
      refine ⟨(upd_ne nlp).trans e1, [(Sum.inr "cells", V.ref c), (Sum.inr "left", V.ref l), (Sum.inr "at", V.int 0)], rfl, by show 3 ≤ 15; decide, ?_⟩
      rw [dd_mk]
      refine q p c l _ (fun b o hb => ?_) hp hc0 hl0 ⟨ns, ls, 0, upd_same, ?_, ?_, nlc, hl, by rw [List.length_map] at h1; omega, h2, by decide, by decide⟩
      · rw [upd_ne (ne_of_none hb hp), upd_ne (ne_of_none hb hl0)]
        exact s2 _ _ hb
      · rw [upd_ne ncp.symm, upd_ne nlc]; exact e2
      · rw [upd_ne nlp.symm, upd_same]
end
end My

namespace My
open PySem PySem.Spec PyProof.Rows L2
theorem dpAll_app {K : PySem.W.Frag} {H : Hp} : ∀ {xs ys : List V} {ds es : List PyData}, DpAll K H xs ds → DpAll K H ys es → DpAll K H (xs ++ ys) (ds ++ es)
  | _, _, _, _, .nil, h => h
  | _, _, _, _, .cons a b, h => .cons a (dpAll_app b h)
theorem pairs_set {K : PySem.W.Frag} {H : Hp} {p : Addr} {zs : List V} {o : HO} (hp : H p = some (.lst zs)) : ∀ {ss : List (Int × Int)} {xs : List V}, DpAll K H xs (ss.map pairI) → DpAll K (upd H p o) xs (ss.map pairI)
  | [], _, h => by cases h; exact .nil
  | s :: r, _, h => by
    cases h with
    | cons a b =>
      obtain ⟨t, rfl, ht⟩ := dp_pair a
      exact .cons (dp_mkpair (sqt_set hp ht)) (pairs_set hp b)
/-! ### what stands through draws: tuples -/
def Tp : HO → Prop
  | .tup _ => True
  | .frz _ _ => True
  | _ => False
def Keep (H H' : Hp) : Prop := ∀ b o, H b = some o → Tp o → H' b = some o
theorem Keep.refl (H : Hp) : Keep H H := fun _ _ h _ => h
theorem Keep.trans {H H1 H2 : Hp} (a : Keep H H1) (b : Keep H1 H2) : Keep H H2 := fun c o h t => b c o (a c o h t) t
theorem keep_same {H H' : Hp} (s : Same H H') : Keep H H' := fun b o h _ => s b o h
theorem keep_set {H : Hp} {p : Addr} {ys : List V} {o : HO} (hp : H p = some (.lst ys)) : Keep H (upd H p o) := fun b u h t => by
  have nb : b ≠ p := fun e => by
    rw [e, hp] at h
    cases h
    exact t
  rw [upd_ne nb]
  exact h
theorem keep_draw {m c l l' n : Addr} {H H' : Hp} (k : Kp m l H l' H') (d : Dr H m c l n) : Keep H H' := fun b o h t => by
  obtain ⟨cs, ls, z, h1, h2, h3, r⟩ := d.ex
  refine k.st b o h (fun e => ?_) (fun e => ?_)
  · rw [e, h1] at h
    cases h
    exact t
  · rw [e, h3] at h
    cases h
    exact t
theorem Keep.tup {K : PySem.W.Frag} {H H' : Hp} {a : Addr} {xs : List V} (k : Keep H H') (h : SqT K H a xs) : SqT K H' a xs := by
  rcases h with (h | ⟨u, h⟩) | h
  · exact .inl (.inl (k _ _ h trivial))
  · exact .inl (.inr ⟨u, k _ _ h trivial⟩)
  · exact .inr h
mutual
def noL : PyData → Bool
  | .list _ => false
  | .tuple ds => noLs ds
  | _ => true
def noLs : List PyData → Bool
  | [] => true
  | d :: r => noL d && noLs r
end
mutual
theorem dp_keep {K : PySem.W.Frag} {H H' : Hp} (s : Keep H H') : ∀ (d : PyData) (v : V), noL d = true → Dp K H v d → Dp K H' v d
  | .none, _, _, h => by cases h; exact .non
  | .bool _, _, _, h => by cases h; exact .bl _
  | .int _, _, _, h => by cases h; exact .int _
  | .str _, _, _, h => by cases h; exact .str _
  | .list ds, _, n, h => by cases n
  | .tuple ds, _, n, h => by
    cases h with
    | tup a b => exact .tup (s.tup a) (dpAll_keep s ds _ n b)
  | .dict _, _, _, h => by cases h
theorem dpAll_keep {K : PySem.W.Frag} {H H' : Hp} (s : Keep H H') : ∀ (ds : List PyData) (vs : List V), noLs ds = true → DpAll K H vs ds → DpAll K H' vs ds
  | [], _, _, h => by cases h; exact .nil
  | d :: ds, _, n, h => by
    cases h with
    | cons a b =>
      obtain ⟨n1, n2⟩ := Bool.and_eq_true_iff.mp (show (noL d && noLs ds) = true from n)
      exact .cons (dp_keep s d _ n1 a) (dpAll_keep s ds _ n2 b)
end
theorem noLs_all : ∀ {ds : List PyData}, (∀ d ∈ ds, noL d = true) → noLs ds = true
  | [], _ => rfl
  | d :: r, h => by
    show (noL d && noLs r) = true
    rw [h d List.mem_cons_self, noLs_all fun e he => h e (List.mem_cons_of_mem _ he)]
    rfl
theorem noL_pair (p : Int × Int) : noL (pairI p) = true := rfl
theorem noLs_pairs (ps : List (Int × Int)) : noLs (ps.map pairI) = true := noLs_all fun d hd => by
  obtain ⟨p, _, rfl⟩ := List.mem_map.mp hd
  rfl
theorem noLs_ints (ns : List Int) : noLs (ns.map .int) = true := noLs_all fun d hd => by
  obtain ⟨p, _, rfl⟩ := List.mem_map.mp hd
  rfl
theorem noL_row (r : List Nat) : noL (rowI r) = true := noLs_all fun d hd => by
  obtain ⟨p, _, rfl⟩ := List.mem_map.mp hd
  rfl
theorem noL_cod (C : Cod) : noL C.dat = true := by
  show (true && (true && (noLs (C.steps.map .int) && (noLs (C.moves.map pairI) && (true && true))))) = true
  rw [noLs_ints, noLs_pairs]
  rfl
/-- an own list through a draw -/
theorem Kp.own {m l l' : Addr} {H H' : Hp} (k : Kp m l H l' H') {p : Addr} {o : HO} (h : H p = some o) (n1 : p ≠ m) (n2 : p ≠ l) : H' p = some o ∧ p ≠ l' := ⟨k.st p o h n1 n2, k.off h n2⟩
/-- a change of an own list: for what stood ahead of it -/
theorem Kp.set {m l l' : Addr} {H H' : Hp} (k : Kp m l H l' H') {p : Addr} {o : HO} (h : H p = none) : Kp m l H l' (upd H' p o) := by
  refine ⟨fun b u hb n1 n2 => ?_, k.nw, fun b hb => ?_⟩
  · rw [upd_ne (ne_of_none hb h)]
    exact k.st b u hb n1 n2
  · unfold upd at hb
    split at hb
    · cases hb
    · exact k.dm b hb
/-- a list of one's own, apart from the drawer -/
structure Own (H : Hp) (m c l p : Addr) (xs : List V) : Prop where
  st : H p = some (.lst xs)
  nm : p ≠ m
  nc : p ≠ c
  nl : p ≠ l
theorem own_mk {H : Hp} {m c l p n : Nat} {xs : List V} (D : Dr H m c l n) (hp : H p = none) : Own (upd H p (.lst xs)) m c l p xs := by
  obtain ⟨cs, ls, z, e1, e2, e3, _⟩ := D.ex
  exact ⟨upd_same, (ne_of_none e1 hp).symm, (ne_of_none e2 hp).symm, (ne_of_none e3 hp).symm⟩
theorem Own.kp {H H' : Hp} {m c l l' p : Addr} {xs : List V} (o : Own H m c l p xs) (k : Kp m l H l' H') : Own H' m c l' p xs := ⟨k.st p _ o.st o.nm o.nl, o.nm, o.nc, k.off o.st o.nl⟩
theorem Own.same {H H' : Hp} {m c l p : Addr} {xs : List V} (o : Own H m c l p xs) (s : Same H H') : Own H' m c l p xs := ⟨s _ _ o.st, o.nm, o.nc, o.nl⟩
theorem Own.set {H : Hp} {m c l p q : Addr} {xs : List V} {u : HO} (o : Own H m c l p xs) (h : p ≠ q) : Own (upd H q u) m c l p xs := ⟨(upd_ne h).trans o.st, o.nm, o.nc, o.nl⟩
theorem Own.put {H : Hp} {m c l p : Addr} {xs ys : List V} (o : Own H m c l p xs) : Own (upd H p (.lst ys)) m c l p ys := ⟨upd_same, o.nm, o.nc, o.nl⟩
theorem Dr.put {H : Hp} {m c l n p : Nat} {xs ys : List V} (D : Dr H m c l n) (o : Own H m c l p xs) : Dr (upd H p (.lst ys)) m c l n := D.set o.nm o.nc o.nl
theorem Own.ne {H : Hp} {m c l p q : Addr} {xs : List V} (o : Own H m c l p xs) (h : H q = none) : p ≠ q := ne_of_none o.st h
theorem at3 {a b c : V} {g : Int} (h0 : 0 ≤ g) (h1 : g < 3) : ∃ v, atI [a, b, c] g = some v ∧ (v = a ∨ v = b ∨ v = c) := by
  have hg : g = 0 ∨ g = 1 ∨ g = 2 := by omega
  rcases hg with e | e | e <;> subst e
  · exact ⟨a, atI_nat (j := 0) rfl, .inl rfl⟩
  · exact ⟨b, atI_nat (j := 1) rfl, .inr (.inl rfl)⟩
  · exact ⟨c, atI_nat (j := 2) rfl, .inr (.inr rfl)⟩
theorem at4 {a b c d : V} {g : Int} (h0 : 0 ≤ g) (h1 : g < 4) : ∃ v, atI [a, b, c, d] g = some v ∧ (v = a ∨ v = b ∨ v = c ∨ v = d) := by
  have hg : g = 0 ∨ g = 1 ∨ g = 2 ∨ g = 3 := by omega
  rcases hg with e | e | e | e <;> subst e
  · exact ⟨a, atI_nat (j := 0) rfl, .inl rfl⟩
  · exact ⟨b, atI_nat (j := 1) rfl, .inr (.inl rfl)⟩
  · exact ⟨c, atI_nat (j := 2) rfl, .inr (.inr (.inl rfl))⟩
  · exact ⟨d, atI_nat (j := 3) rfl, .inr (.inr (.inr rfl))⟩
section
variable {P : Program} {w : World} {K : PySem.W.Frag} {mg : Str → Option Value} {base : Heap}
theorem yes_turn {te : TE} {σ : L2.St} {H : Hp} {Q : VK} {R : Hp → Prop} (h : te σ H Q) : tYes σ H fun b H3 => if b = true then te σ H3 Q else R H3 := by
  show if true = true then te σ H Q else R H
  rw [if_pos rfl]
  exact h
/-- n draws at most, behind which z stands for something of which G holds -/
def spDraw (args : Addr → List V → Prop) (n : Nat) (G : Hp → V → Prop) : Sp := fun vs H Q _ => ∃ (m c l : Addr) (k : Nat), args m vs ∧ Dr H m c l (k + n) ∧
  ∀ z l' H', Kp m l H l' H' → Dr H' m c l' k → G H' z → Q z H'
/-- what a drawn coder is like -/
structure Small (C : Cod) (wide places codes : Int) : Prop where
  lo : -wide ≤ C.low ∧ C.low ≤ 0
  hi : 0 ≤ C.high ∧ C.high ≤ wide
  st : 1 ≤ C.steps.length ∧ (C.steps.length : Int) ≤ places
  ss : ∀ s ∈ C.steps, 1 ≤ s ∧ s ≤ 2 * wide + 2
  mv : 2 ≤ C.moves.length ∧ (C.moves.length : Int) ≤ codes
  mm : ∀ p ∈ C.moves, (-16 ≤ p.1 ∧ p.1 ≤ 16) ∧ (-2 ≤ p.2 ∧ p.2 ≤ 2)
  fd : C.fade = 0 ∨ (2 ≤ C.fade ∧ C.fade ≤ 5)
theorem Small.ok {C : Cod} {wide places codes : Int} (h : Small C wide places codes) (h1 : wide ≤ 4000) (h2 : places ≤ 16) (h3 : codes ≤ 16) : C.Ok := by
  obtain ⟨⟨a1, a2⟩, ⟨b1, b2⟩, ⟨c1, c2⟩, d, ⟨e1, e2⟩, f, g⟩ := h
  refine ⟨by omega, a2, b1, by omega, c1, by omega, fun s hs => ?_, e1, by omega, fun p hp => ?_, by omega⟩
  · have := d s hs
    omega
  · have := f p hp
    omega
def sp_law_coder (K : PySem.W.Frag) : Sp := fun vs H Q _ => ∃ (m c l : Addr) (k : Nat) (wide places codes : Int), vs = [.ref m, .int wide, .int places, .int codes] ∧ (1 ≤ wide ∧ wide ≤ 4000) ∧ (1 ≤ places ∧ places ≤ 16) ∧ (2 ≤ codes ∧ codes ≤ 16) ∧
  Dr H m c l (k + 60) ∧ ∀ z (C : Cod) l' H', Kp m l H l' H' → Dr H' m c l' k → Small C wide places codes → Dp K H' z C.dat → Q z H'
set_option maxHeartbeats 4000000 in
theorem ok_law_coder (T : Txt K mg) : FnOk P w K mg base CX0 3 T.f__law_coder T.d__law_coder ["m", "wide", "places", "codes"] (sp_law_coder K) := by
  refine T.F__law_coder.ok sc_law_coder (fun vs H Q E h => ?_) (fun cdv A outer s H vs Q E hr h => ?_)
  · obtain ⟨m, c, l, k, wide, places, codes, rfl, _⟩ := h
    rfl
  · obtain ⟨m, c, l, k, wide, places, codes, rfl, ⟨w1, w2⟩, ⟨p1, p2⟩, ⟨c1, c2⟩, D0, q⟩ := h
    refine ⟨_,
(pss_cons (ps_par (i := 4) (j := 5) (by rfl) sc_law_coder.nd rfl rfl (by decide) rfl rfl (pa_cons (pe_op op_sub pe_int (pe_call (ok_law_next T) (hr.mono (by decide)) (by rfl) T.g__law_next T.F__law_next.kp T.b__law_next .nil pass0 (pa_cons (pv 0) (pa_cons (pe_op op_add (pv 1) pe_int) pa_nil)))) (pa_cons (pe_call (ok_law_next T) (hr.mono (by decide)) (by rfl) T.g__law_next T.F__law_next.kp T.b__law_next .nil pass0 (pa_cons (pv 0) (pa_cons (pe_op op_add (pv 1) pe_int) pa_nil))) pa_nil)) (by rfl))
      (pss_cons (ps_setLc (i := 7) (own := [("k", 6)]) rfl sc_law_coder.nd rfl rfl (sw_true rfl rfl rfl (by decide +kernel)) (pi_range1 (by rfl) T.z_range (pa_cons (pe_op op_add pe_int (pe_call (ok_law_next T) (hr.mono (by decide)) (by rfl) T.g__law_next T.F__law_next.kp T.b__law_next .nil pass0 (pa_cons (pv 0) (pa_cons (pv 2) pa_nil)))) pa_nil)) (blkOk_by (own := [("k", 6)]) (N := ["m", "wide", "places", "codes", "low", "high", "k", "steps", "moves", "fade"]) (sc := defScope s_law_coder) (by decide +kernel)) (fun _ _ _ _ _ => (pg_name (i := 6) sc_law_coder.nd rfl (Or.inl rfl))) (fun _ _ _ _ _ => pts_nil) (fun _ _ _ _ _ => (pe_op op_add pe_int (pe_call (ok_law_next T) (hr.mono (by decide)) (by rfl) T.g__law_next T.F__law_next.kp T.b__law_next .nil pass0 (pa_cons (pv 0) (pa_cons (pe_op op_add (pe_op op_mul pe_int (pv 1)) pe_int) pa_nil))))))
      (pss_cons (ps_set (i := 8) sc_law_coder.nd rfl (Or.inl rfl) (pe_lst pa_nil))
      (pss_cons (ps_for PassesOwn.never rfl (pi_range1 (by rfl) T.z_range (pa_cons (pe_op op_add pe_int (pe_call (ok_law_next T) (hr.mono (by decide)) (by rfl) T.g__law_next T.F__law_next.kp T.b__law_next .nil pass0 (pa_cons (pv 0) (pa_cons (pe_op op_sub (pv 3) pe_int) pa_nil)))) pa_nil)) (pg_name (i := 6) sc_law_coder.nd rfl (Or.inl rfl)) (pss_one (ps_expr (pe_bm PySem.F.plainAttrs_list PySem.F.slot_list_append PySem.F.type_list_append mt_append (pv 8) (pa_cons (pe_tup (pa_cons (pe_op op_sub (pe_call (ok_law_next T) (hr.mono (by decide)) (by rfl) T.g__law_next T.F__law_next.kp T.b__law_next .nil pass0 (pa_cons (pv 0) (pa_cons pe_int pa_nil))) pe_int) (pa_cons (pe_op op_sub (pe_call (ok_law_next T) (hr.mono (by decide)) (by rfl) T.g__law_next T.F__law_next.kp T.b__law_next .nil pass0 (pa_cons (pv 0) (pa_cons pe_int pa_nil))) pe_int) pa_nil))) pa_nil)))))
      (pss_cons (ps_set (i := 9) sc_law_coder.nd rfl (Or.inl rfl) (pe_ix ix_list (pe_lst (pa_cons pe_int (pa_cons pe_int (pa_cons pe_int (pa_cons (pe_op op_add pe_int (pe_call (ok_law_next T) (hr.mono (by decide)) (by rfl) T.g__law_next T.F__law_next.kp T.b__law_next .nil pass0 (pa_cons (pv 0) (pa_cons pe_int pa_nil)))) pa_nil))))) (pe_call (ok_law_next T) (hr.mono (by decide)) (by rfl) T.g__law_next T.F__law_next.kp T.b__law_next .nil pass0 (pa_cons (pv 0) (pa_cons pe_int pa_nil))) (fun _ _ => rfl)))
      (pss_one (ps_ret (pe_tup (pa_cons (pv 4) (pa_cons (pv 5) (pa_cons (pe_callTy call_tuple_of (by rfl) T.z_tuple (by decide +kernel) (pa_cons (pv 7) pa_nil)) (pa_cons (pe_callTy call_tuple_of (by rfl) T.z_tuple (by decide +kernel) (pa_cons (pv 8) pa_nil)) (pa_cons (pv 9) pa_nil)))))))))))))
, ?_⟩
    -- low, high
    refine ⟨_, rfl, _, rfl, _, _, rfl, rfl, m, c, l, k + 59, wide + 1, rfl, by omega, by omega, D0, fun a l1 H1 a0 a1 kp1 D1 => ⟨0, a, rfl, rfl, ?_⟩⟩
    refine ⟨_, rfl, _, rfl, _, _, rfl, rfl, m, c, l1, k + 58, wide + 1, rfl, by omega, by omega, D1, fun b l2 H2 b0 b1 kp2 D2 => ⟨_, _, rfl, ?_⟩⟩
    have kp12 := kp1.trans kp2
    -- steps
    refine ⟨_, rfl, _, rfl, m, c, l2, k + 57, places, rfl, by omega, by omega, D2, fun np l3 H3 n0 n1 kp3 D3 => ⟨1, np, rfl, rfl, _, rfl, by omega, by omega, fun S hS => ?_⟩⟩
    have kp13 := kp12.trans kp3
    obtain ⟨cs3, ls3, z3, e31, e32, e33, _⟩ := D3.ex
    refine lc_range (lo := 0) (n := (1 + np).toNat) (fun i H' => ∃ (l' : Addr) (ss : List Int), H' S = some (.lst (ss.map V.int)) ∧ ss.length = i ∧ (∀ s ∈ ss, 1 ≤ s ∧ s ≤ 2 * wide + 2) ∧ Kp m l3 H3 l' H' ∧ Dr H' m c l' (k + 57 - i) ∧ S ≠ m ∧ S ≠ c ∧ S ≠ l')
      ⟨l3, [], upd_same, rfl, by simp, Kp.new hS, D3.new hS, (ne_of_none e31 hS).symm, (ne_of_none e32 hS).symm, (ne_of_none e33 hS).symm⟩ ?_ ?_
    · rintro i H' hi ⟨l', ss, hL, hlen, hss, kp, D, nm, nc, nl⟩
      have hi' : i < 17 := by omega
      refine ⟨rfl, yes_turn ?_⟩
      refine ⟨_, rfl, _, rfl, 2, wide, rfl, rfl, .inl ⟨by decide, by decide⟩, _, _, rfl, rfl, m, c, l', k + 57 - (i + 1), 2 * wide + 2, rfl, by omega, by omega, by
          have e : k + 57 - (i + 1) + 1 = k + 57 - i := by omega
          rw [e]; exact D, fun r l'' H'' r0 r1 kp' D' => ⟨1, r, rfl, rfl, ?_⟩⟩
      obtain ⟨hL', nl'⟩ := kp'.own hL nm nl
      refine ⟨_, hL', ?_, l'', ss ++ [1 + r], ?_, by simp [hlen], ?_, (kp.trans kp').set hS, D'.set nm nc nl', nm, nc, nl'⟩
      · rw [List.length_map]
        exact small1000 (by omega)
      · rw [upd_same, List.map_append]
        rfl
      · intro s hs
        rcases List.mem_append.mp hs with h | h
        · exact hss s h
        · rw [List.mem_singleton.mp h]
          omega
    · rintro H4 ⟨l4, ss, hL, hlen, hss, kp4, D4, nSm, nSc, nSl⟩
      have kp14 := kp13.trans kp4
      have hSm := nSm
      have len16 : (1 + np).toNat ≤ 16 := by omega
      have D4 : Dr H4 m c l4 (k + 41) := D4.less (by omega)
      refine ⟨Nat.zero_le _, fun M hM => ?_⟩
      obtain ⟨cs4, ls4, z4, e41, e42, e43, _⟩ := D4.ex
      have nMm : M ≠ m := (ne_of_none e41 hM).symm
      have nMc : M ≠ c := (ne_of_none e42 hM).symm
      have nMl : M ≠ l4 := (ne_of_none e43 hM).symm
      have nMS : S ≠ M := ne_of_none hL hM
      have hL5 := same_new (o := .lst []) hM _ _ hL
      have kp5 : Kp m l H l4 (upd H4 M (.lst [])) := kp14.trans (Kp.new hM)
      have D5 : Dr (upd H4 M (.lst [])) m c l4 (k + 41) := D4.new hM
      have hM5 : (upd H4 M (.lst [])) M = some (.lst []) := upd_same
      have hM0 : H M = none := kp14.dm M hM
      generalize upd H4 M (.lst []) = H5 at hL5 kp5 D5 hM5
      refine ⟨_, rfl, _, rfl, _, _, rfl, rfl, m, c, l4, k + 40, codes - 1, rfl, by omega, by omega, D5, fun nm l6 H6 n60 n61 kp6 D6 => ⟨2, nm, rfl, rfl, _, rfl, by omega, by omega, ?_⟩⟩
      obtain ⟨hL6, nSl6⟩ := kp6.own hL5 nSm nSl
      obtain ⟨hM6, nMl6⟩ := kp6.own hM5 nMm nMl
      refine for_range (lo := 0) (n := (2 + nm).toNat) (fun i σ H' => ∃ (y : Option V) (l' : Addr) (ms : List V) (mvs : List (Int × Int)),
          σ = [some (.ref m), some (.int wide), some (.int places), some (.int codes), some (.int (0 - a)), some (.int b), y, some (.ref S), some (.ref M), none] ∧
          H' M = some (.lst ms) ∧ DpAll K H' ms (mvs.map pairI) ∧ mvs.length = i ∧ (∀ p ∈ mvs, (-16 ≤ p.1 ∧ p.1 ≤ 16) ∧ (-2 ≤ p.2 ∧ p.2 ≤ 2)) ∧
          H' S = some (.lst (ss.map V.int)) ∧ Kp m l H l' H' ∧ Dr H' m c l' (k + 40 - 2 * i) ∧ M ≠ l' ∧ S ≠ l')
        ⟨none, l6, [], [], rfl, hM6, .nil, rfl, by simp, hL6, kp5.trans kp6, D6, nMl6, nSl6⟩ ?_ ?_
      · rintro i σ H7 hi ⟨y, l7, ms, mvs, rfl, hM7, hD7, hlen7, hb7, hS7, kp7, D7, nMl7, nSl7⟩
        have hi' : i < 16 := by omega
        have e1 : k + 40 - 2 * i = k + 40 - 2 * (i + 1) + 2 := by omega
        rw [e1] at D7
        refine ⟨.ref M, rfl, .inl ⟨rfl, _, SqL.of hM7⟩, ?_⟩
        refine ⟨_, rfl, m, c, l7, k + 40 - 2 * (i + 1) + 1, 33, rfl, by decide, by decide, D7, fun r1 l8 H8 r10 r11 kp8 D8 => ⟨r1, 16, rfl, rfl, ?_⟩⟩
        obtain ⟨hM8, nMl8⟩ := kp8.own hM7 nMm nMl7
        obtain ⟨hS8, nSl8⟩ := kp8.own hS7 nSm nSl7
        refine ⟨_, rfl, m, c, l8, k + 40 - 2 * (i + 1), 5, rfl, by decide, by decide, D8, fun r2 l9 H9 r20 r21 kp9 D9 => ⟨r2, 2, rfl, rfl, by show 2 ≤ sizeLine; decide, fun p hp => ?_⟩⟩
        obtain ⟨hM9, nMl9⟩ := kp9.own hM8 nMm nMl8
        obtain ⟨hS9, nSl9⟩ := kp9.own hS8 nSm nSl8
        have hD9 : DpAll K H9 ms (mvs.map pairI) := dpAll_keep (keep_draw kp9 D8) _ _ (noLs_pairs _) (dpAll_keep (keep_draw kp8 D7) _ _ (noLs_pairs _) hD7)
        have sp := same_new (o := .tup [.int (r1 - 16), .int (r2 - 2)]) hp
        have hM10 := sp _ _ hM9
        have hS10 := sp _ _ hS9
        refine ⟨M, ms, _, rfl, rfl, hM10, ?_, ?_⟩
        · rw [dpAll_len hD7, List.length_map, hlen7]
          exact small1000 (by omega)
        · refine ⟨_, l9, ms ++ [.ref p], mvs ++ [(r1 - 16, r2 - 2)], rfl, upd_same, ?_, by simp [hlen7], ?_, (upd_ne nMS).trans hS10, (((kp7.trans kp8).trans kp9).trans (Kp.new hp)).set hM0, (D9.new hp).set nMm nMc nMl9, nMl9, nSl9⟩
          · rw [List.map_append]
            exact dpAll_app (pairs_set hM10 (dpAll_same sp _ _ hD9)) (.cons (dp_mkpair (s := (r1 - 16, r2 - 2)) (sqt_set hM10 upd_tup)) .nil)
          · intro x hx
            rcases List.mem_append.mp hx with h | h
            · exact hb7 x h
            · rw [List.mem_singleton.mp h]
              exact ⟨⟨by show -16 ≤ r1 - 16; omega, by show r1 - 16 ≤ 16; omega⟩, by show -2 ≤ r2 - 2; omega, by show r2 - 2 ≤ 2; omega⟩
      · rintro σ H7 ⟨y, l7, ms, mvs, rfl, hM7, hD7, hlen7, hb7, hS7, kp7, D7, nMl7, nSl7⟩
        have D7 : Dr H7 m c l7 (k + 2) := D7.less (by omega)
        -- fade
        refine ⟨_, rfl, m, c, l7, k + 1, 4, rfl, by decide, by decide, D7, fun f l8 H8 f0 f1 kp8 D8 => ⟨2, f, rfl, rfl, by show 4 ≤ sizeLine; decide, fun L hL8 => ?_⟩⟩
        obtain ⟨hM8, nMl8⟩ := kp8.own hM7 nMm nMl7
        obtain ⟨hS8, nSl8⟩ := kp8.own hS7 nSm nSl7
        have hD8 : DpAll K H8 ms (mvs.map pairI) := dpAll_keep (keep_draw kp8 D7) _ _ (noLs_pairs _) hD7
        obtain ⟨cs8, ls8, z8, e81, e82, e83, _⟩ := D8.ex
        have nLm : L ≠ m := (ne_of_none e81 hL8).symm
        have nLl : L ≠ l8 := (ne_of_none e83 hL8).symm
        have sL := same_new (o := .lst [V.int 0, V.int 0, V.int 2, V.int (2 + f)]) hL8
        have D9 : Dr (upd H8 L (.lst [V.int 0, V.int 0, V.int 2, V.int (2 + f)])) m c l8 (k + 1) := D8.new hL8
        have hL9 : (upd H8 L (.lst [V.int 0, V.int 0, V.int 2, V.int (2 + f)])) L = some (.lst [V.int 0, V.int 0, V.int 2, V.int (2 + f)]) := upd_same
        have kp9 : Kp m l H l8 (upd H8 L (.lst [V.int 0, V.int 0, V.int 2, V.int (2 + f)])) := (kp7.trans kp8).trans (Kp.new hL8)
        have hM9 := sL _ _ hM8
        have hS9 := sL _ _ hS8
        have hD9 := dpAll_same sL _ _ hD8
        generalize upd H8 L (.lst [V.int 0, V.int 0, V.int 2, V.int (2 + f)]) = H9 at sL D9 hL9 kp9 hM9 hS9 hD9
        refine ⟨_, rfl, m, c, l8, k, 4, rfl, by decide, by decide, D9, fun g l10 H10 g0 g1 kp10 D10 => ?_⟩
        obtain ⟨hL10, _⟩ := kp10.own hL9 nLm nLl
        obtain ⟨hM10, nMl10⟩ := kp10.own hM9 nMm nMl8
        obtain ⟨hS10, nSl10⟩ := kp10.own hS9 nSm nSl8
        have hD10 : DpAll K H10 ms (mvs.map pairI) := dpAll_keep (keep_draw kp10 D9) _ _ (noLs_pairs _) hD9
        obtain ⟨fd, hfd, hat⟩ : ∃ fd : Int, (fd = 0 ∨ (2 ≤ fd ∧ fd ≤ 5)) ∧ atI [V.int 0, V.int 0, V.int 2, V.int (2 + f)] g = some (.int fd) := by
          have hg : g = 0 ∨ g = 1 ∨ g = 2 ∨ g = 3 := by omega
          rcases hg with e | e | e | e <;> subst e
          · exact ⟨0, .inl rfl, atI_nat (j := 0) rfl⟩
          · exact ⟨0, .inl rfl, atI_nat (j := 1) rfl⟩
          · exact ⟨2, .inr ⟨by omega, by omega⟩, atI_nat (j := 2) rfl⟩
          · exact ⟨2 + f, .inr ⟨by omega, by omega⟩, atI_nat (j := 3) rfl⟩
        refine ⟨L, _, g, .int fd, rfl, rfl, SqL.of hL10, hat, ?_⟩
        -- the tuple
        refine ⟨_, rfl, _, rfl, .ref S, rfl, S, _, rfl, .inl ⟨SqL.of hS10, fun ts hts => ?_⟩⟩
        have s11 := same_new (o := .tup (ss.map V.int)) hts
        have hM11 := s11 _ _ hM10
        have t11 : (upd H10 ts (.tup (ss.map V.int))) ts = some (.tup (ss.map V.int)) := upd_same
        have hD11 := dpAll_same s11 _ _ hD10
        have kp11 : Kp m l H l10 (upd H10 ts (.tup (ss.map V.int))) := (kp9.trans kp10).trans (Kp.new hts)
        have D11 : Dr (upd H10 ts (.tup (ss.map V.int))) m c l10 k := D10.new hts
        generalize upd H10 ts (.tup (ss.map V.int)) = H11 at hM11 t11 hD11 kp11 D11
        refine ⟨.ref M, rfl, M, _, rfl, .inl ⟨SqL.of hM11, fun tm htm => ?_⟩⟩
        have s12 := same_new (o := .tup ms) htm
        have t12 := s12 _ _ t11
        have m12 : (upd H11 tm (.tup ms)) tm = some (.tup ms) := upd_same
        have hD12 := dpAll_same s12 _ _ hD11
        have kp12' : Kp m l H l10 (upd H11 tm (.tup ms)) := kp11.trans (Kp.new htm)
        have D12 : Dr (upd H11 tm (.tup ms)) m c l10 k := D11.new htm
        generalize upd H11 tm (.tup ms) = H12 at t12 m12 hD12 kp12' D12
        refine ⟨_, rfl, by show 5 ≤ sizeLine; decide, fun p hp => ?_⟩
        have s13 := same_new (o := .tup [V.int (0 - a), V.int b, V.ref ts, V.ref tm, V.int fd]) hp
        refine q _ ⟨0 - a, b, ss, mvs, fd⟩ l10 _ (kp12'.trans (Kp.new hp)) (D12.new hp) ⟨⟨by show -wide ≤ 0 - a; omega, by show 0 - a ≤ 0; omega⟩, ⟨b0, by show b ≤ wide; omega⟩, ⟨by show 1 ≤ ss.length; omega, by show (ss.length : Int) ≤ places; omega⟩, hss, ⟨by show 2 ≤ mvs.length; omega, by show (mvs.length : Int) ≤ codes; omega⟩, hb7, hfd⟩ ?_
        refine .tup upd_tup (.cons (.int _) (.cons (.int _) (.cons ?_ (.cons ?_ (.cons (.int _) .nil)))))
        · exact dp_tints (.inl (.inl (s13 _ _ t12)))
        · exact .tup (.inl (.inl (s13 _ _ m12))) (dpAll_same s13 _ _ hD12)
end
end My

namespace My
open PySem PySem.Spec PyProof.Rows L2
/-! ### the size of what is written out -/
structure Sh (k n : Nat) (d : PyData) : Prop where
  sh : d.showable = true
  nd : d.hasDict = false
  dp : d.depth ≤ k
  le : d.shown.length ≤ n
theorem Sh.mono {k n k' n' : Nat} {d : PyData} (h : Sh k n d) (h1 : k ≤ k') (h2 : n ≤ n') : Sh k' n' d := ⟨h.sh, h.nd, Nat.le_trans h.dp h1, Nat.le_trans h.le h2⟩
theorem sh_int {i : Int} (h : i.natAbs < 2 ^ 64) : Sh 0 1921 (.int i) := by
  have hl : i.natAbs.log2 < 1920 := Nat.lt_trans (PySem.Flt.log2_lt_of (by decide) h) (by decide)
  exact ⟨decide_eq_true hl, rfl, Nat.le_refl _, int_text_len_1921 hl⟩
theorem sh_all {k n : Nat} : ∀ {ds : List PyData}, (∀ d ∈ ds, Sh k n d) → PyData.showableAll ds = true ∧ PyData.hasDictAll ds = false ∧ PyData.depthAll ds ≤ k ∧ piled (PyData.shownAll ds) ≤ ds.length * (n + 2) ∧ (PyData.shownAll ds).length = ds.length
  | [], _ => ⟨rfl, rfl, Nat.zero_le _, Nat.zero_le _, rfl⟩
  | d :: r, h => by
    obtain ⟨h1, h2, h3, h4, h5⟩ := sh_all fun e he => h e (List.mem_cons_of_mem d he)
    have hd := h d List.mem_cons_self
    refine ⟨?_, ?_, ?_, ?_, ?_⟩
    · show (d.showable && PyData.showableAll r) = true
      rw [hd.sh, h1]
      rfl
    · show (d.hasDict || PyData.hasDictAll r) = false
      rw [hd.nd, h2]
      rfl
    · show max d.depth (PyData.depthAll r) ≤ k
      exact Nat.max_le.mpr ⟨hd.dp, h3⟩
    · show piled (d.shown :: PyData.shownAll r) ≤ (r.length + 1) * (n + 2)
      rw [piled_cons, Nat.succ_mul]
      have := hd.le
      omega
    · show (PyData.shownAll r).length + 1 = r.length + 1
      rw [h5]
theorem sh_tup {k n : Nat} {ds : List PyData} (h : ∀ d ∈ ds, Sh k n d) : Sh (k + 1) (ds.length * (n + 2) + 3) (.tuple ds) := by
  obtain ⟨h1, h2, h3, h4, h5⟩ := sh_all h
  refine ⟨h1, h2, Nat.succ_le_succ h3, ?_⟩
  show (tupleText (PyData.shownAll ds)).length ≤ _
  unfold tupleText
  rw [strLen_append, strLen_append]
  have e1 : ((("(" : String) : Str)).length = 1 := rfl
  have e3 : (((if (PyData.shownAll ds).length == 1 then ",)" else ")" : String) : Str)).length ≤ 2 := by split <;> decide
  rw [e1]
  by_cases hn : PyData.shownAll ds = []
  · rw [hn] at e3 ⊢
    have : (Str.join ", " []).length = 0 := rfl
    omega
  · have := join_length_add (PyData.shownAll ds) hn
    omega
theorem sh_list2 {k n : Nat} {a b : PyData} (h1 : Sh k n a) (h2 : Sh k n b) : Sh (k + 1) (2 * n + 4) (.list [a, b]) := by
  refine ⟨?_, ?_, ?_, ?_⟩
  · show (a.showable && (b.showable && true)) = true
    rw [h1.sh, h2.sh]
    rfl
  · show (a.hasDict || (b.hasDict || false)) = false
    rw [h1.nd, h2.nd]
    rfl
  · show max a.depth (max b.depth 0) + 1 ≤ k + 1
    have := h1.dp
    have := h2.dp
    omega
  · show (listText [a.shown, b.shown]).length ≤ _
    have e : listText [a.shown, b.shown] = (((((Str.ofString "[" ++ Str.ofString "") ++ a.shown) ++ Str.ofString ", ") ++ b.shown) ++ Str.ofString "]") := rfl
    rw [e, strLen_append, strLen_append, strLen_append, strLen_append, strLen_append]
    have e0 : (Str.ofString "").length = 0 := by decide
    have e1 : (Str.ofString "[").length = 1 := by decide
    have e2 : (Str.ofString "]").length = 1 := by decide
    have e3 : (Str.ofString ", ").length = 2 := by decide
    have := h1.le
    have := h2.le
    omega
theorem sh_ints {ns : List Int} (h : ∀ z ∈ ns, z.natAbs < 2 ^ 64) : Sh 1 (ns.length * 1923 + 3) (.tuple (ns.map .int)) := by
  have := sh_tup (k := 0) (n := 1921) (ds := ns.map .int) fun d hd => by
    obtain ⟨z, hz, rfl⟩ := List.mem_map.mp hd
    exact sh_int (h z hz)
  rw [List.length_map] at this
  exact this
theorem sh_pair {s : Int × Int} (h1 : s.1.natAbs < 2 ^ 64) (h2 : s.2.natAbs < 2 ^ 64) : Sh 1 4000 (pairI s) :=
  (sh_tup (k := 0) (n := 1921) (ds := [.int s.1, .int s.2]) fun d hd => by
    rcases List.mem_cons.mp hd with e | e
    · rw [e]; exact sh_int h1
    · rw [List.mem_singleton.mp e]; exact sh_int h2).mono (Nat.le_refl _) (by simp)
theorem sz_line {n : Nat} (h : n ≤ 1000000) : n ≤ sizeLine := Nat.le_trans h (by decide)
/-! ### slices and sums of tuples -/
theorem cut_take {xs : List V} {n : Nat} (h : n ≤ xs.length) : cutV xs none (some (n : Int)) = xs.take n := by
  unfold cutV
  rw [HT.sIx_none, HT.sIx_nat, Nat.min_eq_left h]
  rfl
theorem cut_drop {xs : List V} {n : Nat} (h : n ≤ xs.length) : cutV xs (some (n : Int)) none = xs.drop n := by
  unfold cutV
  rw [HT.sIx_none, HT.sIx_nat, Nat.min_eq_left h]
  exact List.take_of_length_le (by simp)
theorem dp_row {K : PySem.W.Frag} {H : Hp} {a : Addr} {r : List Nat} (h : SqT K H a (rowV r)) : Dp K H (.ref a) (rowI r) := by
  refine .tup h ?_
  clear h
  induction r with
  | nil => exact .nil
  | cons n r ih => exact .cons (.int n) ih
theorem sl_take {K : PySem.W.Frag} {H : Hp} {a : Addr} {r : List Nat} {n : Nat} {Q : VK} (h : SqT K H a (rowV r)) (hn : n ≤ r.length) (k : ∀ v H', Same H H' → Dp K H' v (rowI (r.take n)) → Q v H') :
    rSlA K (.ref a) none (some (n : Int)) H Q := by
  have hl : (rowV r).length = r.length := List.length_map ..
  refine ⟨a, rowV r, rfl, h, fun ⟨_, e⟩ => ?_, fun _ p hp => ?_⟩
  · rw [HT.sIx_nat, hl, Nat.min_eq_left hn] at e
    refine k _ H (Same.refl H) ?_
    rw [e, List.take_length]
    exact dp_row h
  · refine k _ _ (same_new hp) ?_
    rw [cut_take (by omega), show (rowV r).take n = rowV (r.take n) from List.map_take.symm]
    exact dp_row upd_tup
theorem sl_drop {K : PySem.W.Frag} {H : Hp} {a : Addr} {r : List Nat} {n : Nat} {Q : VK} (h : SqT K H a (rowV r)) (hn : n ≤ r.length) (k : ∀ v H', Same H H' → Dp K H' v (rowI (r.drop n)) → Q v H') :
    rSlA K (.ref a) (some (n : Int)) none H Q := by
  have hl : (rowV r).length = r.length := List.length_map ..
  refine ⟨a, rowV r, rfl, h, fun ⟨e, _⟩ => ?_, fun _ p hp => ?_⟩
  · rw [HT.sIx_nat, hl, Nat.min_eq_left hn] at e
    refine k _ H (Same.refl H) ?_
    rw [e]
    exact dp_row h
  · refine k _ _ (same_new hp) ?_
    rw [cut_drop (by omega), show (rowV r).drop n = rowV (r.drop n) from List.map_drop.symm]
    exact dp_row upd_tup
theorem cat_ints {K : PySem.W.Frag} {H : Hp} {a b : Addr} {ns ms : List Int} {Q : VK} (ha : SqT K H a (ns.map V.int)) (hb : SqT K H b (ms.map V.int)) (hl : ns.length + ms.length ≤ sizeLine)
    (k : ∀ v H', Same H H' → Dp K H' v (.tuple ((ns ++ ms).map .int)) → Q v H') : rCatA K (.ref a) (.ref b) H Q := by
  refine ⟨a, b, _, _, rfl, rfl, ha, hb, by rw [List.length_map, List.length_map]; exact hl, fun e => ?_, fun _ e => ?_, fun _ _ p hp => ?_⟩
  · have e' : ns = [] := List.map_eq_nil_iff.mp e
    refine k _ H (Same.refl H) ?_
    rw [e']
    exact dp_tints hb
  · have e' : ms = [] := List.map_eq_nil_iff.mp e
    refine k _ H (Same.refl H) ?_
    rw [e', List.append_nil]
    exact dp_tints ha
  · refine k _ _ (same_new hp) (dp_tints ?_)
    rw [List.map_append]
    exact upd_tup
theorem dp_last {K : PySem.W.Frag} {H : Hp} {xs : List V} {ps : List (Int × Int)} {s : Int × Int} (h : DpAll K H xs ((ps ++ [s]).map pairI)) : ∃ ys z, xs = ys ++ [z] ∧ Dp K H z (pairI s) := by
  have hl := dpAll_len h
  have hne : xs ≠ [] := by
    intro e
    rw [e] at hl
    simp at hl
  obtain ⟨z, hz, hd⟩ := dpAll_get' h (i := ps.length) (d := pairI s) (by rw [List.map_append, List.getElem?_append_right (by simp)]; simp)
  refine ⟨xs.dropLast, z, ?_, hd⟩
  have hxl : xs.length = ps.length + 1 := by rw [hl]; simp
  have : xs.getLast hne = z := by
    rw [List.getLast_eq_getElem]
    have e : xs[xs.length - 1]? = some z := by rw [hxl]; exact hz
    exact (List.getElem?_eq_some_iff.mp e).2
  rw [← this]
  exact (List.dropLast_concat_getLast hne).symm
/-- repr(..) of data that is small -/
theorem rr {K : PySem.W.Frag} {H : Hp} {v : V} {d : PyData} {k n : Nat} {Q : VK} (h : Dp K H v d) (s : Sh k n d) (hk : k ≤ 60) (hn : n ≤ 1000000) (q : Q (.str d.shown) H) : rRepr K [v] H Q :=
  ⟨v, d, rfl, h, s.sh, s.nd, Nat.le_trans s.dp hk, sz_line (Nat.le_trans s.le hn), q⟩
/-- x != y of equal texts -/
theorem ne_same {x : Str} {A B : Hp → Prop} {H : Hp} (q : B H) : rNe (.str x) (.str x) H fun v H' => ∃ c, v = .bl c ∧ if c = true then A H' else B H' := by
  refine ⟨rfl, false, ?_, iteF q⟩
  show V.bl (!decide (V.str x = V.str x)) = V.bl false
  rw [decide_eq_true rfl]
  rfl
theorem eq_same {x : Str} {H : Hp} {Q : VK} (q : Q (.bl true) H) : rEq (.str x) (.str x) H Q := by
  refine ⟨rfl, ?_⟩
  rw [decide_eq_true rfl]
  exact q
section
variable {P : Program} {w : World} {K : PySem.W.Frag} {mg : Str → Option Value} {base : Heap}
def sp_law_row (K : PySem.W.Frag) : Sp := fun vs H Q _ => ∃ (m c l : Addr) (k : Nat) (x : V) (C : Cod) (many : Nat), vs = [.ref m, x, .int many] ∧ many ≤ 900 ∧ C.Ok ∧ Dp K H x C.dat ∧ Dr H m c l (k + many + 1) ∧
  ∀ z row l' H', Kp m l H l' H' → Dr H' m c l' k → C.Row row → row.length ≤ many → Dp K H' z (rowI row) → Q z H'
theorem ok_law_row (T : Txt K mg) : FnOk P w K mg base CX0 3 T.f__law_row T.d__law_row ["m", "coder", "many"] (sp_law_row K) := by
  refine T.F__law_row.ok sc_law_row (fun vs H Q E h => ?_) (fun cdv A outer s H vs Q E hr h => ?_)
  · obtain ⟨m, c, l, k, x, C, many, rfl, _⟩ := h
    rfl
  · obtain ⟨m, c, l, k, x, C, many, rfl, hmany, O, hc, D, q⟩ := h
    obtain ⟨a, s, mm, ms, rfl, ha, hs, hm, hmd⟩ := cod_at hc
    have := O.m1
    have := O.m2
    refine ⟨_,
(pss_one (ps_ret (pe_callTy call_tuple_of (by rfl) T.z_tuple (by decide +kernel) (pa_cons (pe_lc (own := [("k", 3)]) rfl sc_law_row.nd (pi_range1 (by rfl) T.z_range (pa_cons (pe_call (ok_law_next T) (hr.mono (by decide)) (by rfl) T.g__law_next T.F__law_next.kp T.b__law_next .nil pass0 (pa_cons (pv 0) (pa_cons (pe_op op_add (pv 2) pe_int) pa_nil))) pa_nil)) (blkOk_by (own := [("k", 3)]) (N := ["m", "coder", "many", "k"]) (sc := defScope s_law_row) (by decide +kernel)) (fun _ _ _ _ _ => (pg_name (i := 3) sc_law_row.nd rfl (Or.inl rfl))) (fun _ _ _ _ _ => pts_nil) (fun _ _ _ _ _ => (pe_call (ok_law_next T) (hr.mono (by decide)) (by rfl) T.g__law_next T.F__law_next.kp T.b__law_next .nil pass0 (pa_cons (pv 0) (pa_cons (pe_callB (My.call_lenK (K := K)) (by rfl) T.z_len (by decide +kernel) (pa_cons (pe_ix (My.ix_tupK (K := K)) (pv 1) pe_int (fun _ _ => rfl)) pa_nil)) pa_nil))))) pa_nil))))
, ?_⟩
    refine ⟨_, rfl, _, rfl, _, _, rfl, rfl, m, c, l, k + many, (many : Int) + 1, rfl, by omega, by omega, D, fun n l1 H1 n0 n1 kp1 D1 => ⟨n, rfl, by omega, by omega, fun S hS => ?_⟩⟩
    have K1 := keep_draw kp1 D
    obtain ⟨cs3, ls3, z3, e31, e32, e33, _⟩ := D1.ex
    have hml : ms.length = C.moves.length := by rw [dpAll_len hmd, List.length_map]
    refine lc_range (lo := 0) (n := n.toNat) (fun i H' => ∃ (l' : Addr) (rs : List Nat), H' S = some (.lst (rowV rs)) ∧ rs.length = i ∧ (∀ r ∈ rs, r < C.moves.length) ∧ Kp m l1 H1 l' H' ∧ Keep H1 H' ∧ Dr H' m c l' (k + many - i) ∧ S ≠ m ∧ S ≠ c ∧ S ≠ l')
      ⟨l1, [], upd_same, rfl, by simp, Kp.new hS, keep_same (same_new hS), D1.new hS, (ne_of_none e31 hS).symm, (ne_of_none e32 hS).symm, (ne_of_none e33 hS).symm⟩ ?_ ?_
    · rintro i H' hi ⟨l', rs, hL, hlen, hrs, kp, kk, D2, nm, nc, nl⟩
      refine ⟨rfl, yes_turn ?_⟩
      have kt := K1.trans kk
      refine ⟨_, rfl, _, rfl, a, _, 3, _, rfl, rfl, kt.tup ha, atI_nat (j := 3) rfl, mm, _, rfl, .inr (kt.tup hm), m, c, l', k + many - (i + 1), (ms.length : Int), rfl, by omega, by omega, ?_, fun r l'' H'' r0 r1 kp' D' => ?_⟩
      · have e : k + many - (i + 1) + 1 = k + many - i := by omega
        rw [e]
        exact D2
      obtain ⟨hL', nl'⟩ := kp'.own hL nm nl
      refine ⟨_, hL', ?_, l'', rs ++ [r.toNat], ?_, by simp [hlen], ?_, (kp.trans kp').set hS, (kk.trans (keep_draw kp' D2)).trans (keep_set hL'), D'.set nm nc nl', nm, nc, nl'⟩
      · show (rs.map _).length < _
        rw [List.length_map]
        exact small1000 (by omega)
      · rw [upd_same]
        unfold rowV
        rw [List.map_append]
        have e : r = ((r.toNat : Nat) : Int) := by omega
        show _ = some (HO.lst (_ ++ [V.int ((r.toNat : Nat) : Int)]))
        rw [← e]
      · intro z hz
        rcases List.mem_append.mp hz with h | h
        · exact hrs z h
        · rw [List.mem_singleton.mp h]
          omega
    · rintro H4 ⟨l4, rs, hL, hlen, hrs, kp4, kk, D4, nm, nc, nl⟩
      refine ⟨S, _, rfl, .inl ⟨SqL.of hL, fun t ht => ?_⟩⟩
      exact q _ rs l4 _ ((kp1.trans kp4).trans (Kp.new ht)) ((D4.less (by omega)).new ht) ⟨by omega, hrs⟩ (by omega) (dp_row upd_tup)
end
end My

namespace My
open PySem PySem.Spec PyProof.Rows L2
/-! ### what rows do to places and levels -/
def Cod.plc (C : Cod) (p : Int) (k : Nat) : Int := lim (p + (C.moves.getD k (0, 0)).2) 0 ((C.steps.length : Int) - 1)
def Cod.pl (C : Cod) (p : Int) : List Nat → Int
  | [] => p
  | k :: r => Cod.pl C (C.plc p k) r
def Cod.chs (C : Cod) (p : Int) : List Nat → List Int
  | [] => []
  | k :: r => C.chg k p.toNat :: Cod.chs C (C.plc p k) r
def Cod.lvc (C : Cod) (l c : Int) : Int := lim (fdd l C.fade + c) C.low C.high
def Cod.lv (C : Cod) (l : Int) : List Int → Int
  | [] => l
  | c :: r => Cod.lv C (C.lvc l c) r
theorem run_split {C : Cod} : ∀ (row : List Nat) (l p : Int), C.run (l, p) row = (C.lv l (C.chs p row), C.pl p row)
  | [], _, _ => rfl
  | k :: r, l, p => run_split r (C.lvc l (C.chg k p.toNat)) (C.plc p k)
theorem run_eq {C : Cod} (row : List Nat) (s : Int × Int) : C.run s row = (C.lv s.1 (C.chs s.2 row), C.pl s.2 row) := run_split row s.1 s.2
theorem pl_snoc {C : Cod} : ∀ (r : List Nat) (p : Int) (k : Nat), C.pl p (r ++ [k]) = C.plc (C.pl p r) k
  | [], _, _ => rfl
  | j :: r, p, k => pl_snoc r (C.plc p j) k
theorem chs_snoc {C : Cod} : ∀ (r : List Nat) (p : Int) (k : Nat), C.chs p (r ++ [k]) = C.chs p r ++ [C.chg k (C.pl p r).toNat]
  | [], _, _ => rfl
  | j :: r, p, k => congrArg (C.chg j p.toNat :: ·) (chs_snoc r (C.plc p j) k)
theorem chs_len {C : Cod} : ∀ (r : List Nat) (p : Int), (C.chs p r).length = r.length
  | [], _ => rfl
  | _ :: r, _ => congrArg (· + 1) (chs_len r _)
theorem lv_snoc {C : Cod} : ∀ (r : List Int) (l c : Int), C.lv l (r ++ [c]) = C.lvc (C.lv l r) c
  | [], _, _ => rfl
  | j :: r, l, c => lv_snoc r (C.lvc l j) c
def Cod.pIn (C : Cod) (p : Int) : Prop := 0 ≤ p ∧ p ≤ (C.steps.length : Int) - 1
def Cod.lIn (C : Cod) (l : Int) : Prop := C.low ≤ l ∧ l ≤ C.high
theorem plc_in {C : Cod} (O : C.Ok) (p : Int) (k : Nat) : C.pIn (C.plc p k) := lim_in (by have := O.s1; omega)
theorem lvc_in {C : Cod} (O : C.Ok) (l c : Int) : C.lIn (C.lvc l c) := lim_in (by have := O.l2; have := O.h1; omega)
theorem pl_in {C : Cod} (O : C.Ok) : ∀ (r : List Nat) {p : Int}, C.pIn p → C.pIn (C.pl p r)
  | [], _, h => h
  | k :: r, p, _ => pl_in O r (plc_in O p k)
theorem lv_in {C : Cod} (O : C.Ok) : ∀ (r : List Int) {l : Int}, C.lIn l → C.lIn (C.lv l r)
  | [], _, h => h
  | c :: r, l, _ => lv_in O r (lvc_in O l c)
theorem lim_mono {a b lo hi : Int} (h : a ≤ b) (hl : lo ≤ hi) : lim a lo hi ≤ lim b lo hi := by
  unfold lim
  split <;> split <;> (try split) <;> omega
theorem lim_step {a b lo hi : Int} (h : a ≤ b) (h1 : b ≤ a + 1) (hl : lo ≤ hi) : lim b lo hi ≤ lim a lo hi + 1 := by
  unfold lim
  split <;> split <;> (try split) <;> omega
theorem div_next {a f : Int} (hf : 2 ≤ f) : (a + 1) / f ≤ a / f + 1 := by
  have h : (a + f) / f = a / f + 1 := Int.add_ediv_of_dvd_right (Int.dvd_refl f) |>.trans (by rw [Int.ediv_self (by omega)])
  rw [← h]
  exact Int.ediv_le_ediv (by omega) (by omega)
theorem rnd_next {a f : Int} (hf : 2 ≤ f) : rnd a f ≤ rnd (a + 1) f ∧ rnd (a + 1) f ≤ rnd a f + 1 := by
  unfold rnd
  split
  · rename_i h
    rw [Int.fdiv_eq_ediv_of_nonneg _ (by omega)]
    split
    · rw [Int.fdiv_eq_ediv_of_nonneg _ (by omega)]
      have h1 := div_next (a := -(a + 1)) hf
      have h2 : -(a + 1) / f ≤ -a / f := Int.ediv_le_ediv (by omega) (by omega)
      rw [show -(a + 1) + 1 = -a by omega] at h1
      omega
    · rw [Int.fdiv_eq_ediv_of_nonneg _ (by omega)]
      have e : a = -1 := by omega
      subst e
      have h0 : (0 : Int) / f = 0 := Int.zero_ediv f
      have h1 : (1 : Int) / f = 0 := Int.ediv_eq_zero_of_lt (by omega) (by omega)
      simp [h0, h1]
  · rename_i h
    rw [if_neg (by omega), Int.fdiv_eq_ediv_of_nonneg _ (by omega), Int.fdiv_eq_ediv_of_nonneg _ (by omega)]
    exact ⟨Int.ediv_le_ediv (by omega) (by omega), div_next hf⟩
theorem fdd_next {a f : Int} (hf : f = 0 ∨ 2 ≤ f) : fdd a f ≤ fdd (a + 1) f ∧ fdd (a + 1) f ≤ fdd a f + 1 := by
  unfold fdd
  split
  · omega
  · have := rnd_next (a := a) (f := f) (by omega)
    omega
theorem lvc_next {C : Cod} (O : C.Ok) (l c : Int) : C.lvc l c ≤ C.lvc (l + 1) c ∧ C.lvc (l + 1) c ≤ C.lvc l c + 1 := by
  have h := fdd_next (a := l) (f := C.fade) (by have := O.f1; omega)
  have hl : C.low ≤ C.high := by have := O.l2; have := O.h1; omega
  exact ⟨lim_mono (by omega) hl, lim_step (by omega) (by omega) hl⟩
theorem mono_of_next {f : Int → Int} (h : ∀ a, f a ≤ f (a + 1)) {a b : Int} (hab : a ≤ b) : f a ≤ f b := by
  obtain ⟨n, rfl⟩ : ∃ n : Nat, b = a + n := ⟨(b - a).toNat, by omega⟩
  clear hab
  induction n with
  | zero => simp
  | succ n ih =>
    have := h (a + n)
    rw [show a + ((n + 1 : Nat) : Int) = a + n + 1 by omega]
    omega
theorem lv_next {C : Cod} (O : C.Ok) : ∀ (r : List Int) (l m : Int), l ≤ m → m ≤ l + 1 → C.lv l r ≤ C.lv m r ∧ C.lv m r ≤ C.lv l r + 1
  | [], l, m, h1, h2 => ⟨h1, h2⟩
  | c :: r, l, m, h1, h2 => by
    have h : m = l ∨ m = l + 1 := by omega
    rcases h with e | e
    · subst e
      exact ⟨Int.le_refl _, by omega⟩
    · subst e
      have := lvc_next O l c
      exact lv_next O r _ _ this.1 this.2
theorem lv_mono {C : Cod} (O : C.Ok) (r : List Int) {a b : Int} (h : a ≤ b) : C.lv a r ≤ C.lv b r :=
  mono_of_next (f := fun l => C.lv l r) (fun a => (lv_next O r a (a + 1) (by omega) (by omega)).1) h
theorem pl_mono {C : Cod} (O : C.Ok) : ∀ (r : List Nat) {a b : Int}, a ≤ b → C.pl a r ≤ C.pl b r
  | [], _, _, h => h
  | k :: r, a, b, h => pl_mono O r (lim_mono (by omega) (by have := O.s1; omega))
/-- without a fade: three integers tell the map -/
theorem lv_limits {C : Cod} (O : C.Ok) (h0 : C.fade = 0) (l : Int) (hl : C.lIn l) : ∀ (r : List Int),
    C.lv l r = lim (l + r.sum) (C.lv C.low r) (C.lv C.high r) := by
  have key : ∀ (n : Nat) (r : List Int), r.length = n → C.lv l r = lim (l + r.sum) (C.lv C.low r) (C.lv C.high r) ∧ C.lv C.low r ≤ C.lv C.high r := by
    intro n
    induction n with
    | zero =>
      intro r hr
      have e : r = [] := List.length_eq_zero_iff.mp hr
      subst e
      have := hl.1
      have := hl.2
      refine ⟨?_, by show C.low ≤ C.high; omega⟩
      show l = lim (l + 0) C.low C.high
      unfold lim
      rw [if_neg (by omega), if_neg (by omega)]
      omega
    | succ n ih =>
      intro r hr
      obtain ⟨q, c, rfl⟩ : ∃ q c, r = q ++ [c] := ⟨r.dropLast, r.getLast (by intro e; rw [e] at hr; cases hr), (List.dropLast_concat_getLast _).symm⟩
      have hq : q.length = n := by simp at hr; exact hr
      obtain ⟨e, hle⟩ := ih q hq
      rw [lv_snoc, lv_snoc, lv_snoc, e]
      have hs : (q ++ [c]).sum = q.sum + c := by simp
      rw [hs]
      unfold Cod.lvc fdd
      rw [if_pos h0, if_pos h0, if_pos h0]
      have hlh : C.low ≤ C.high := by have := O.l2; have := O.h1; omega
      generalize C.lv C.low q = A at *
      generalize C.lv C.high q = B at *
      generalize q.sum = S
      refine ⟨?_, lim_mono (by omega) hlh⟩
      unfold lim
      (repeat' split) <;> omega
  exact fun r => (key r.length r rfl).1
theorem lv_lim_le {C : Cod} (O : C.Ok) (r : List Int) : C.lv C.low r ≤ C.lv C.high r := lv_mono O r (by have := O.l2; have := O.h1; omega)
/-! ### repetitions -/
def itr (f : Int → Int) : Nat → Int → Int
  | 0, x => x
  | n + 1, x => f (itr f n x)
theorem itr_in {f : Int → Int} {lo hi x : Int} (hf : ∀ y, lo ≤ y ∧ y ≤ hi → lo ≤ f y ∧ f y ≤ hi) (hx : lo ≤ x ∧ x ≤ hi) : ∀ n, lo ≤ itr f n x ∧ itr f n x ≤ hi
  | 0 => hx
  | n + 1 => hf _ (itr_in hf hx n)
theorem itr_le {f : Int → Int} {lo hi x : Int} (hf : ∀ y, lo ≤ y ∧ y ≤ hi → lo ≤ f y ∧ f y ≤ hi) (hm : ∀ a b, a ≤ b → f a ≤ f b) (hx : lo ≤ x ∧ x ≤ hi)
    {n : Nat} (h : ∀ j < n, itr f (j + 1) x ≠ itr f j x) : (n : Int) ≤ hi - lo := by
  rcases Int.le_total x (f x) with hd | hd
  · have up : ∀ j, itr f j x ≤ itr f (j + 1) x := by
      intro j
      induction j with
      | zero => exact hd
      | succ j ih => exact hm _ _ ih
    have : ∀ j ≤ n, x + (j : Int) ≤ itr f j x := by
      intro j
      induction j with
      | zero => intro _; show x + 0 ≤ x; omega
      | succ j ih =>
        intro hj
        have h1 := ih (by omega)
        have h2 := up j
        have h3 := h j (by omega)
        omega
    have h1 := this n (Nat.le_refl _)
    have h2 := itr_in hf hx n
    omega
  · have dn : ∀ j, itr f (j + 1) x ≤ itr f j x := by
      intro j
      induction j with
      | zero => exact hd
      | succ j ih => exact hm _ _ ih
    have : ∀ j ≤ n, itr f j x ≤ x - (j : Int) := by
      intro j
      induction j with
      | zero => intro _; show x ≤ x - 0; omega
      | succ j ih =>
        intro hj
        have h1 := ih (by omega)
        have h2 := dn j
        have h3 := h j (by omega)
        omega
    have h1 := this n (Nat.le_refl _)
    have h2 := itr_in hf hx n
    omega
theorem itr_rest {f : Int → Int} {x : Int} {n : Nat} (h : itr f (n + 1) x = itr f n x) : ∀ k, itr f (n + k) x = itr f n x
  | 0 => rfl
  | k + 1 => by
    show f (itr f (n + k) x) = _
    rw [itr_rest h k]
    exact h
def Cod.rep (C : Cod) (row : List Nat) (s : Int × Int) : Nat → Int × Int
  | 0 => s
  | n + 1 => C.run (Cod.rep C row s n) row
theorem rep_St {C : Cod} (O : C.Ok) {row : List Nat} {s : Int × Int} (h : C.St s) : ∀ n, C.St (C.rep row s n)
  | 0 => h
  | n + 1 => run_St O row (rep_St O h n)
theorem rep_pl {C : Cod} {row : List Nat} {s : Int × Int} : ∀ n, (C.rep row s n).2 = itr (fun p => C.pl p row) n s.2
  | 0 => rfl
  | n + 1 => by
    show (C.run (C.rep row s n) row).2 = C.pl (itr (fun p => C.pl p row) n s.2) row
    rw [run_eq, ← rep_pl n]
theorem rep_lv {C : Cod} {row : List Nat} {s : Int × Int} {P : Nat} (hP : (C.rep row s (P + 1)).2 = (C.rep row s P).2) :
    ∀ j, C.rep row s (P + j) = (itr (fun l => C.lv l (C.chs (C.rep row s P).2 row)) j (C.rep row s P).1, (C.rep row s P).2)
  | 0 => rfl
  | j + 1 => by
    show C.run (C.rep row s (P + j)) row = _
    rw [rep_lv hP j, run_eq]
    have e : C.pl (C.rep row s P).2 row = (C.rep row s P).2 := by
      have : (C.run (C.rep row s P) row).2 = (C.rep row s P).2 := hP
      rw [run_eq] at this
      exact this
    rw [e]
    rfl
theorem rep_rest {C : Cod} {row : List Nat} {s : Int × Int} {T : Nat} (h : C.rep row s (T + 1) = C.rep row s T) : ∀ k, C.rep row s (T + k) = C.rep row s T
  | 0 => rfl
  | k + 1 => by
    show C.run (C.rep row s (T + k)) row = _
    rw [rep_rest h k]
    exact h
/-- the places come to rest behind just P repetitions -/
structure Rests (C : Cod) (row : List Nat) (s : Int × Int) (P : Nat) : Prop where
  mv : ∀ j < P, (C.rep row s (j + 1)).2 ≠ (C.rep row s j).2
  st : (C.rep row s (P + 1)).2 = (C.rep row s P).2
/-- the row settles behind just T repetitions, the place with P of them -/
structure Settles (C : Cod) (row : List Nat) (s : Int × Int) (T P : Nat) : Prop where
  mv : ∀ j < T, C.rep row s (j + 1) ≠ C.rep row s j
  st : C.rep row s (T + 1) = C.rep row s T
  pl : (C.rep row s (P + 1)).2 = (C.rep row s P).2
  pT : P ≤ T
  pm : (P : Int) ≤ (C.steps.length : Int) - 1
  tm : (T : Int) ≤ (C.steps.length : Int) - 1 + (C.high - C.low)
theorem places_le {C : Cod} (O : C.Ok) {row : List Nat} {s : Int × Int} (hs : C.St s) {n : Nat} (h : ∀ j < n, (C.rep row s (j + 1)).2 ≠ (C.rep row s j).2) : (n : Int) ≤ (C.steps.length : Int) - 1 := by
  have := itr_le (f := fun p => C.pl p row) (lo := 0) (hi := (C.steps.length : Int) - 1) (x := s.2) (fun y hy => pl_in O row hy) (fun a b hab => pl_mono O row hab) ⟨hs.2.2.1, by have := hs.2.2.2; omega⟩
    (n := n) (fun j hj => by rw [← rep_pl, ← rep_pl]; exact h j hj)
  omega
theorem levels_le {C : Cod} (O : C.Ok) {cs : List Int} {l : Int} (hl : C.lIn l) {n : Nat} (h : ∀ j < n, itr (fun l => C.lv l cs) (j + 1) l ≠ itr (fun l => C.lv l cs) j l) : (n : Int) ≤ C.high - C.low :=
  itr_le (f := fun l => C.lv l cs) (fun _ hy => lv_in O cs hy) (fun _ _ hab => lv_mono O cs hab) hl h
theorem settles_of {C : Cod} (O : C.Ok) {row : List Nat} {s : Int × Int} (hs : C.St s) {P Q : Nat} (r : Rests C row s P)
    (mv : ∀ j < Q, itr (fun l => C.lv l (C.chs (C.rep row s P).2 row)) (j + 1) (C.rep row s P).1 ≠ itr (fun l => C.lv l (C.chs (C.rep row s P).2 row)) j (C.rep row s P).1)
    (st : itr (fun l => C.lv l (C.chs (C.rep row s P).2 row)) (Q + 1) (C.rep row s P).1 = itr (fun l => C.lv l (C.chs (C.rep row s P).2 row)) Q (C.rep row s P).1) : Settles C row s (P + Q) P := by
  have h1 := places_le O hs r.mv
  have hS := rep_St O (row := row) hs P
  have h2 := levels_le O ⟨hS.1, hS.2.1⟩ mv
  refine ⟨fun j hj e => ?_, ?_, r.st, by omega, h1, by omega⟩
  · rcases Nat.lt_or_ge j P with h | h
    · exact r.mv j h (by rw [e])
    · obtain ⟨i, rfl⟩ : ∃ i, j = P + i := ⟨j - P, by omega⟩
      have e' : C.rep row s (P + (i + 1)) = C.rep row s (P + i) := e
      rw [rep_lv r.st, rep_lv r.st] at e'
      exact mv i (by omega) (congrArg Prod.fst e')
  · show C.rep row s (P + (Q + 1)) = _
    rw [rep_lv r.st, rep_lv r.st, st]
end My

namespace My
open PySem PySem.Spec PyProof.Rows L2
theorem same_put {H H' : Hp} {p : Addr} {o : HO} (s : Same H H') (h : H p = none) : Same H (upd H' p o) := fun b u e => by
  rw [upd_ne (ne_of_none e h)]
  exact s b u e
theorem cut2 (a b c d e : V) : cutV [a, b, c, d, e] none (some 2) = [a, b] := rfl
theorem cut3 (a b c d e : V) : cutV [a, b, c, d, e] none (some 3) = [a, b, c] := rfl
def Cod.reps (C : Cod) (row : List Nat) (s : Int × Int) (n : Nat) : List (Int × Int) := (List.range n).map (C.rep row s)
theorem reps_succ {C : Cod} {row : List Nat} {s : Int × Int} (n : Nat) : C.reps row s (n + 1) = C.reps row s n ++ [C.rep row s n] := by
  unfold Cod.reps
  rw [List.range_succ, List.map_append]
  rfl
theorem reps_len {C : Cod} {row : List Nat} {s : Int × Int} (n : Nat) : (C.reps row s n).length = n := by
  unfold Cod.reps
  rw [List.length_map, List.length_range]
/-- what one more repetition makes of a level, without a fade by three integers -/
def Cod.lim3 (C : Cod) (cs : List Int) : Int × Int × Int := (cs.sum, C.lv C.low cs, C.lv C.high cs)
section
variable {P : Program} {w : World} {K : PySem.W.Frag} {mg : Str → Option Value} {base : Heap}
def sp_row_behind (K : PySem.W.Frag) : Sp := fun vs H Q _ => ∃ (c r x : V) (C : Cod) (row : List Nat) (s : Int × Int), vs = [c, r, x] ∧ C.Ok ∧ Dp K H c C.dat ∧ Dp K H r (rowI row) ∧ (∀ k ∈ row, k < C.moves.length) ∧ Dp K H x (pairI s) ∧ C.St s ∧
  ∀ z H', Same H H' → Dp K H' z (pairI (C.run s row)) → Q z H'
theorem ok_state_behind_row (T : Txt K mg) : FnOk P w K mg base CX0 5 T.f_state_behind_row T.d_state_behind_row ["coder", "row", "state"] (sp_row_behind K) := by
  refine T.F_state_behind_row.ok sc_state_behind_row (fun vs H Q E h => ?_) (fun cdv A outer s H vs Q E hr h => ?_)
  · obtain ⟨c, r, x, C, row, s, rfl, _⟩ := h
    rfl
  · obtain ⟨c, r, x, C, row, st, rfl, O, hc, hrow, R, hx, hst, q⟩ := h
    refine ⟨_,
(pss_cons (ps_set (i := 3) sc_state_behind_row.nd rfl (Or.inl rfl) (pv 2))
      (pss_cons (ps_for PassesOwn.never rfl (pi_tup (pv 1)) (pg_name (i := 4) sc_state_behind_row.nd rfl (Or.inl rfl)) (pss_one (ps_set (i := 3) sc_state_behind_row.nd rfl (Or.inl rfl) (pe_call (ok_state_behind T) (hr.mono (by decide)) (by rfl) T.g_state_behind T.F_state_behind.kp T.b_state_behind .nil pass0 (pa_cons (pv 0) (pa_cons (pv 3) (pa_cons (pv 4) pa_nil)))))))
      (pss_one (ps_ret (pv 3)))))
, ?_⟩
    obtain ⟨a, rfl, ha⟩ := row_at hrow
    refine ⟨x, rfl, .ref a, rfl, a, rfl, ⟨_, ha⟩, ?_⟩
    refine for_tup (K := K) (a := a) (xs := rowV row) (fun i σ H' => ∃ z y, σ = [some c, some (.ref a), some x, some z, y] ∧ Same H H' ∧ Dp K H' z (pairI (C.run st (row.take i)))) ⟨x, none, rfl, Same.refl H, hx⟩ ?_ ?_ ?_
    · rintro i σ H' _ ⟨_, _, _, s2, _⟩
      exact same_tup s2 ha
    · rintro i v σ H' hi ⟨z, y, rfl, s2, hz⟩
      obtain ⟨k, hk, rfl⟩ := rowV_get hi
      refine ⟨c, rfl, z, rfl, .int k, rfl, c, z, C, _, k, rfl, O, dp_same s2 _ _ hc, hz, run_St O _ hst, R k (List.mem_of_getElem? hk), fun p hp => ?_⟩
      refine ⟨.ref p, _, rfl, s2.trans (same_new hp), ?_⟩
      rw [take_snoc hk, run_snoc]
      exact dp_mkpair upd_tup
    · rintro σ H' ⟨z, y, rfl, s2, hz⟩
      have e : row.take (rowV row).length = row := by
        unfold rowV
        rw [List.length_map, List.take_length]
      rw [e] at hz
      exact ⟨z, rfl, q z H' s2 hz⟩
def sp_changes (K : PySem.W.Frag) : Sp := fun vs H Q _ => ∃ (c r : V) (C : Cod) (row : List Nat) (p : Int), vs = [c, r, .int p] ∧ C.Ok ∧ Dp K H c C.dat ∧ Dp K H r (rowI row) ∧ C.Row row ∧ C.pIn p ∧
  ∀ t l H', Same H H' → H l = none → H' l = some (.lst ((C.chs p row).map V.int)) → SqT K H' t [.ref l, .int (C.pl p row)] → Q (.ref t) H'
theorem ok_changes_along (T : Txt K mg) : FnOk P w K mg base CX0 4 T.f_changes_along T.d_changes_along ["coder", "row", "place"] (sp_changes K) := by
  refine T.F_changes_along.ok sc_changes_along (fun vs H Q E h => ?_) (fun cdv A outer s H vs Q E hr h => ?_)
  · obtain ⟨c, r, C, row, p, rfl, _⟩ := h
    rfl
  · obtain ⟨c, r, C, row, p, rfl, O, hc, hrow, R, hp, q⟩ := h
    refine ⟨_,
(pss_cons (ps_set (i := 3) sc_changes_along.nd rfl (Or.inl rfl) (pe_op op_sub (pe_callB call_len_seq (by rfl) T.z_len (by decide +kernel) (pa_cons (pe_ix ix_tup (pv 0) pe_int (fun _ _ => rfl)) pa_nil)) pe_int))
      (pss_cons (ps_set (i := 4) sc_changes_along.nd rfl (Or.inl rfl) (pe_lst pa_nil))
      (pss_cons (ps_set (i := 5) sc_changes_along.nd rfl (Or.inl rfl) (pv 2))
      (pss_cons (ps_for PassesOwn.never rfl (pi_tup (pv 1)) (pg_name (i := 6) sc_changes_along.nd rfl (Or.inl rfl)) (pss_cons (ps_expr (pe_bm PySem.F.plainAttrs_list PySem.F.slot_list_append PySem.F.type_list_append mt_append (pv 4) (pa_cons (pe_call (ok_change_at T) (hr.mono (by decide)) (by rfl) T.g_change_at T.F_change_at.kp T.b_change_at .nil pass0 (pa_cons (pv 0) (pa_cons (pv 6) (pa_cons (pv 5) pa_nil)))) pa_nil)))
      (pss_one (ps_set (i := 5) sc_changes_along.nd rfl (Or.inl rfl) (pe_call (ok_limited T) (hr.mono (by decide)) (by rfl) T.g_limited T.F_limited.kp T.b_limited .nil pass0 (pa_cons (pe_op op_add (pv 5) (pe_ix ix_tup (pe_ix ix_tup (pe_ix ix_tup (pv 0) pe_int (fun _ _ => rfl)) (pv 6) (fun _ _ => rfl)) pe_int (fun _ _ => rfl))) (pa_cons pe_int (pa_cons (pv 3) pa_nil))))))))
      (pss_one (ps_ret (pe_tup (pa_cons (pv 4) (pa_cons (pv 5) pa_nil)))))))))
, ?_⟩
    have hc' := hc
    obtain ⟨a, s, m, ms, rfl, ha, hs, hm, hmd⟩ := cod_at hc
    obtain ⟨ra, rfl, hra⟩ := row_at hrow
    refine ⟨_, rfl, a, _, 2, .ref s, rfl, rfl, ha, atI_nat (j := 2) rfl, s, _, rfl, .inr hs, _, _, rfl, rfl, ?_⟩
    refine ⟨Nat.zero_le _, fun l hl => ?_⟩
    have s1 := same_new (o := .lst []) hl
    refine ⟨_, rfl, .ref ra, rfl, ra, rfl, ⟨_, same_tup s1 hra⟩, ?_⟩
    have el : ((C.steps.map V.int).length : Int) = (C.steps.length : Int) := by rw [List.length_map]
    refine for_tup (K := K) (a := ra) (xs := rowV row) (fun i σ H' => ∃ y, σ = [some (.ref a), some (.ref ra), some (.int p), some (.int (((C.steps.map V.int).length : Int) - 1)), some (.ref l), some (.int (C.pl p (row.take i))), y] ∧ Same H H' ∧
      H' l = some (.lst ((C.chs p (row.take i)).map V.int))) ⟨none, rfl, s1, upd_same⟩ ?_ ?_ ?_
    · rintro i σ H' _ ⟨_, _, s2, _⟩
      exact same_tup s2 hra
    · rintro i v σ H' hi ⟨y, rfl, s2, hL⟩
      obtain ⟨k, hk, rfl⟩ := rowV_get hi
      have hkm := R.lt k (List.mem_of_getElem? hk)
      have hq := pl_in O (row.take i) hp
      have hlen : i < 2000 := by
        have h1 := (List.getElem?_eq_some_iff.mp hk).1
        have := R.len
        omega
      generalize hP : C.pl p (row.take i) = pp at hq
      obtain ⟨q1, q2⟩ := hq
      have ep : pp = (pp.toNat : Int) := by omega
      obtain ⟨t, ht, hT⟩ := move_at hmd hkm
      refine ⟨.ref l, rfl, .inl ⟨rfl, _, SqL.of hL⟩, .ref a, rfl, .int k, rfl, .int pp, rfl, .ref a, C, k, pp.toNat, by show [V.ref a, V.int (k : Int), V.int pp] = _; rw [← ep], O, dp_same s2 _ _ hc', hkm, by omega, l, _, _, rfl, rfl, hL, ?_, ?_⟩
      · rw [List.length_map, chs_len, List.length_take]
        exact Nat.lt_of_le_of_lt (Nat.min_le_left _ _) (Nat.lt_trans hlen (by decide))
      have s3 := same_put (o := .lst ((C.chs p (row.take i)).map V.int ++ [V.int (C.chg k pp.toNat)])) s2 hl
      refine ⟨_, rfl, _, rfl, a, _, 3, _, rfl, rfl, same_tup s3 ha, atI_nat (j := 3) rfl, _, rfl, m, _, k, _, rfl, rfl, same_tup s3 hm, atI_nat ht, t, _, 1, _, rfl, rfl, same_tup s3 hT, atI_nat (j := 1) rfl, _, _, rfl, rfl, _, rfl, _, _, _, rfl, ?_, ?_⟩
      · have := O.s1
        omega
      · refine ⟨some (.int k), ?_, s3, ?_⟩
        · rw [take_snoc hk, pl_snoc, hP, el]
          rfl
        · rw [upd_same, take_snoc hk, chs_snoc, hP, List.map_append]
          rfl
    · rintro σ H' ⟨y, rfl, s2, hL⟩
      have e : row.take (rowV row).length = row := by
        unfold rowV
        rw [List.length_map, List.take_length]
      rw [e] at hL ⊢
      refine ⟨_, rfl, _, rfl, by show 2 ≤ sizeLine; decide, fun t ht => ?_⟩
      have s3 := same_new (o := .tup [.ref l, .int (C.pl p row)]) ht
      exact q t l _ (s2.trans s3) hl (s3 _ _ hL) upd_tup
def sp_level (K : PySem.W.Frag) : Sp := fun vs H Q _ => ∃ (c : V) (l : Addr) (C : Cod) (cs : List Int) (x : Int), vs = [c, .ref l, .int x] ∧ C.Ok ∧ Dp K H c C.dat ∧ SqL K H l (cs.map V.int) ∧
  ∀ H', Same H H' → Q (.int (C.lv x cs)) H'
theorem ok_level_behind (T : Txt K mg) : FnOk P w K mg base CX0 4 T.f_level_behind T.d_level_behind ["coder", "changes", "level"] (sp_level K) := by
  refine T.F_level_behind.ok sc_level_behind (fun vs H Q E h => ?_) (fun cdv A outer s H vs Q E hr h => ?_)
  · obtain ⟨c, l, C, cs, x, rfl, _⟩ := h
    rfl
  · obtain ⟨c, l, C, cs, x, rfl, O, hc, hL, q⟩ := h
    refine ⟨_,
(pss_cons (ps_par3 (i := 3) (j := 4) (l := 5) (by rfl) sc_level_behind.nd rfl rfl rfl (by decide) (by decide) (by decide) rfl rfl rfl (pa_cons (pe_ix ix_tup (pv 0) pe_int (fun _ _ => rfl)) (pa_cons (pe_ix ix_tup (pv 0) pe_int (fun _ _ => rfl)) (pa_cons (pe_ix ix_tup (pv 0) pe_int (fun _ _ => rfl)) pa_nil))) (by rfl))
      (pss_cons (ps_set (i := 6) sc_level_behind.nd rfl (Or.inl rfl) (pv 2))
      (pss_cons (ps_for PassesOwn.never rfl (pi_list (pv 1)) (pg_name (i := 7) sc_level_behind.nd rfl (Or.inl rfl)) (pss_one (ps_set (i := 6) sc_level_behind.nd rfl (Or.inl rfl) (pe_call (ok_limited T) (hr.mono (by decide)) (by rfl) T.g_limited T.F_limited.kp T.b_limited .nil pass0 (pa_cons (pe_op op_add (pe_call (ok_faded T) (hr.mono (by decide)) (by rfl) T.g_faded T.F_faded.kp T.b_faded .nil pass0 (pa_cons (pv 6) (pa_cons (pv 5) pa_nil))) (pv 7)) (pa_cons (pv 3) (pa_cons (pv 4) pa_nil)))))))
      (pss_one (ps_ret (pv 6))))))
, ?_⟩
    obtain ⟨a, s, m, ms, rfl, ha, hs, hm, hmd⟩ := cod_at hc
    refine ⟨_, rfl, a, _, 0, _, rfl, rfl, ha, atI_nat (j := 0) rfl, _, rfl, a, _, 1, _, rfl, rfl, ha, atI_nat (j := 1) rfl, _, rfl, a, _, 4, _, rfl, rfl, ha, atI_nat (j := 4) rfl, _, _, _, rfl, ?_⟩
    refine ⟨_, rfl, .ref l, rfl, l, rfl, ⟨_, hL⟩, ?_⟩
    refine for_list (K := K) (a := l) (xs := cs.map V.int) (fun i σ H' => ∃ y, σ = [some (.ref a), some (.ref l), some (.int x), some (.int C.low), some (.int C.high), some (.int C.fade), some (.int (C.lv x (cs.take i))), y] ∧ Same H H') ⟨none, rfl, Same.refl H⟩ ?_ ?_ ?_
    · rintro i σ H' _ ⟨_, _, s2⟩
      exact s2.seq hL
    · rintro i v σ H' hi ⟨y, rfl, s2⟩
      obtain ⟨d, hd, rfl⟩ : ∃ d, cs[i]? = some d ∧ v = .int d := by
        rw [List.getElem?_map] at hi
        cases e : cs[i]? with
        | none => rw [e] at hi; cases hi
        | some d => rw [e] at hi; exact ⟨d, rfl, (Option.some.inj hi).symm⟩
      refine ⟨_, rfl, _, rfl, _, C.fade, rfl, O.f1, _, rfl, _, _, rfl, rfl, _, rfl, _, rfl, _, _, _, rfl, ?_, ?_⟩
      · have := O.l2
        have := O.h1
        omega
      · refine ⟨some (.int d), ?_, s2⟩
        rw [take_snoc hd, lv_snoc]
        rfl
    · rintro σ H' ⟨y, rfl, s2⟩
      have e : cs.take (cs.map V.int).length = cs := by rw [List.length_map, List.take_length]
      rw [e]
      exact ⟨_, rfl, q H' s2⟩
def sp_limits (K : PySem.W.Frag) : Sp := fun vs H Q _ => ∃ (c : V) (l : Addr) (C : Cod) (cs : List Int), vs = [c, .ref l] ∧ C.Ok ∧ Dp K H c C.dat ∧ SqL K H l (cs.map V.int) ∧
  ∀ t H', Same H H' → SqT K H' t [.int cs.sum, .int (C.lv C.low cs), .int (C.lv C.high cs)] → Q (.ref t) H'
theorem ok_limits_behind (T : Txt K mg) : FnOk P w K mg base CX0 5 T.f_limits_behind T.d_limits_behind ["coder", "changes"] (sp_limits K) := by
  refine T.F_limits_behind.ok sc_limits_behind (fun vs H Q E h => ?_) (fun cdv A outer s H vs Q E hr h => ?_)
  · obtain ⟨c, l, C, cs, rfl, _⟩ := h
    rfl
  · obtain ⟨c, l, C, cs, rfl, O, hc, hL, q⟩ := h
    refine ⟨_,
(pss_cons (ps_asg (pe_slice sl_tupA (pv 0) po_none (po_some pe_int)) (pg_tup (by rfl) (pgs_cons (pg_name (i := 2) sc_limits_behind.nd rfl (Or.inl rfl)) (pgs_cons (pg_name (i := 3) sc_limits_behind.nd rfl (Or.inl rfl)) pgs_nil))))
      (pss_one (ps_ret (pe_tup (pa_cons (pe_callB ((cr_sum rfl)) (by rfl) T.z_sum (by decide +kernel) (pa_cons (pv 1) pa_nil)) (pa_cons (pe_call (ok_level_behind T) (hr.mono (by decide)) (by rfl) T.g_level_behind T.F_level_behind.kp T.b_level_behind .nil pass0 (pa_cons (pv 0) (pa_cons (pv 1) (pa_cons (pv 2) pa_nil)))) (pa_cons (pe_call (ok_level_behind T) (hr.mono (by decide)) (by rfl) T.g_level_behind T.F_level_behind.kp T.b_level_behind .nil pass0 (pa_cons (pv 0) (pa_cons (pv 1) (pa_cons (pv 3) pa_nil)))) pa_nil)))))))
, ?_⟩
    have hc' := hc
    obtain ⟨a, s, m, ms, rfl, ha, hs, hm, hmd⟩ := cod_at hc
    refine ⟨_, rfl, 2, rfl, a, _, rfl, ha, fun hw => absurd (show (2 : Nat) = 5 from hw.2) (by decide), fun _ p hp => ?_⟩
    rw [cut2]
    have s1 := same_new (o := .tup [V.int C.low, V.int C.high]) hp
    refine ⟨p, _, rfl, upd_tup, rfl, _, _, rfl, _, _, rfl, rfl, ?_⟩
    generalize upd H p (.tup [V.int C.low, V.int C.high]) = H1 at s1
    refine ⟨_, rfl, l, cs, rfl, s1.seq hL, ?_⟩
    refine ⟨_, rfl, _, rfl, _, rfl, _, l, C, cs, C.low, rfl, O, dp_same s1 _ _ hc', s1.seq hL, fun H2 s2 => ?_⟩
    have s12 := s1.trans s2
    refine ⟨_, rfl, _, rfl, _, rfl, _, l, C, cs, C.high, rfl, O, dp_same s12 _ _ hc', s12.seq hL, fun H3 s3 => ?_⟩
    refine ⟨by show 3 ≤ sizeLine; decide, fun t ht => ?_⟩
    exact q t _ ((s12.trans s3).trans (same_new ht)) upd_tup
end
end My

namespace My
open PySem PySem.Spec PyProof.Rows L2
theorem bne_t {a b : Int} (e : (!decide (V.int a = V.int b)) = true) : a ≠ b := fun h => by
  rw [h, decide_eq_true rfl] at e
  cases e
theorem bne_f {a b : Int} (e : ¬ (!decide (V.int a = V.int b)) = true) : a = b := by
  refine Decidable.byContradiction fun h => e ?_
  rw [decide_eq_false (fun z => h (V.int.inj z))]
  rfl
/-- the three integers of a row where there is no fade, None where there is one -/
def LimOk (K : PySem.W.Frag) (H : Hp) (C : Cod) (cs : List Int) (v : V) : Prop := (C.fade ≠ 0 ∧ v = .non) ∨ (C.fade = 0 ∧ ∃ t, v = .ref t ∧ SqT K H t [.int cs.sum, .int (C.lv C.low cs), .int (C.lv C.high cs)])
theorem LimOk.same {K : PySem.W.Frag} {H H' : Hp} {C : Cod} {cs : List Int} {v : V} (s : Same H H') : LimOk K H C cs v → LimOk K H' C cs v
  | .inl h => .inl h
  | .inr ⟨h, t, e, ht⟩ => .inr ⟨h, t, e, same_tup s ht⟩
def levs (f : Int → Int) (x : Int) (n : Nat) : List Int := (List.range n).map fun j => itr f (j + 1) x
theorem levs_succ {f : Int → Int} {x : Int} (n : Nat) : levs f x (n + 1) = levs f x n ++ [itr f (n + 1) x] := by
  unfold levs
  rw [List.range_succ, List.map_append]
  rfl
theorem levs_len {f : Int → Int} {x : Int} (n : Nat) : (levs f x n).length = n := by
  unfold levs
  rw [List.length_map, List.length_range]
theorem reps_levs {C : Cod} {row : List Nat} {s : Int × Int} {P : Nat} (hP : (C.rep row s (P + 1)).2 = (C.rep row s P).2) : ∀ n,
    C.reps row s (P + n + 1) = C.reps row s (P + 1) ++ (levs (fun l => C.lv l (C.chs (C.rep row s P).2 row)) (C.rep row s P).1 n).map fun l => (l, (C.rep row s P).2)
  | 0 => by simp [levs]
  | n + 1 => by
    have e : P + (n + 1) + 1 = (P + n + 1) + 1 := by omega
    rw [e, reps_succ, reps_levs hP n, levs_succ, List.map_append, List.append_assoc]
    congr 2
    show [C.rep row s (P + (n + 1))] = _
    rw [rep_lv hP]
    rfl
theorem Settles.min {C : Cod} {row : List Nat} {s : Int × Int} {T P : Nat} (h : Settles C row s T P) (n : Nat) : C.rep row s (min n T) = C.rep row s n := by
  rcases Nat.le_total n T with e | e
  · rw [Nat.min_eq_left e]
  · obtain ⟨k, rfl⟩ : ∃ k, n = T + k := ⟨n - T, by omega⟩
    rw [Nat.min_eq_right e, rep_rest h.st]
section
variable {P : Program} {w : World} {K : PySem.W.Frag} {mg : Str → Option Value} {base : Heap}
def sp_once (K : PySem.W.Frag) : Sp := fun vs H Q _ => ∃ (c : V) (l : Addr) (C : Cod) (cs : List Int) (v : V) (x : Int), vs = [c, .ref l, v, .int x] ∧ C.Ok ∧ Dp K H c C.dat ∧ SqL K H l (cs.map V.int) ∧ LimOk K H C cs v ∧ C.lIn x ∧
  ∀ H', Same H H' → Q (.int (C.lv x cs)) H'
theorem ok_level_behind_once (T : Txt K mg) : FnOk P w K mg base CX0 5 T.f__level_behind_once T.d__level_behind_once ["coder", "changes", "limits", "level"] (sp_once K) := by
  refine T.F__level_behind_once.ok sc_level_behind_once (fun vs H Q E h => ?_) (fun cdv A outer s H vs Q E hr h => ?_)
  · obtain ⟨c, l, C, cs, v, x, rfl, _⟩ := h
    rfl
  · obtain ⟨c, l, C, cs, v, x, rfl, O, hc, hL, hv, hx, q⟩ := h
    refine ⟨_,
(pss_cons (ps_if (pt_cmpR op_isN (pv 2) pe_non (nomark _)) (pss_one (ps_ret (pe_call (ok_level_behind T) (hr.mono (by decide)) (by rfl) T.g_level_behind T.F_level_behind.kp T.b_level_behind .nil pass0 (pa_cons (pv 0) (pa_cons (pv 1) (pa_cons (pv 3) pa_nil)))))) pss_nil)
      (pss_cons (ps_asg (pv 2) (pg_tup (by rfl) (pgs_cons (pg_name (i := 4) sc_level_behind_once.nd rfl (Or.inl rfl)) (pgs_cons (pg_name (i := 5) sc_level_behind_once.nd rfl (Or.inl rfl)) (pgs_cons (pg_name (i := 6) sc_level_behind_once.nd rfl (Or.inl rfl)) pgs_nil)))))
      (pss_one (ps_ret (pe_call (ok_limited T) (hr.mono (by decide)) (by rfl) T.g_limited T.F_limited.kp T.b_limited .nil pass0 (pa_cons (pe_op op_add (pv 3) (pv 4)) (pa_cons (pv 5) (pa_cons (pv 6) pa_nil))))))))
, ?_⟩
    rcases hv with ⟨hf, rfl⟩ | ⟨hf, t, rfl, ht⟩
    · refine ⟨_, rfl, rfl, _, rfl, ?_⟩
      refine iteT ?_
      exact ⟨_, rfl, _, rfl, _, rfl, c, l, C, cs, x, rfl, O, hc, hL, q⟩
    · refine ⟨_, rfl, rfl, _, rfl, ?_⟩
      refine iteF ?_
      refine ⟨_, rfl, t, _, rfl, ht, rfl, _, _, rfl, _, _, rfl, _, _, rfl, rfl, ?_⟩
      refine ⟨_, rfl, _, rfl, _, _, rfl, rfl, _, rfl, _, rfl, _, _, _, rfl, lv_lim_le O cs, ?_⟩
      rw [← lv_limits O hf x hx]
      exact q H (Same.refl H)
def sp_levels (K : PySem.W.Frag) : Sp := fun vs H Q _ => ∃ (c : V) (l : Addr) (C : Cod) (cs : List Int) (x : Int), vs = [c, .ref l, .int x] ∧ C.Ok ∧ Dp K H c C.dat ∧ SqL K H l (cs.map V.int) ∧ C.lIn x ∧
  ∀ p n H', Same H H' → H p = none → H' p = some (.lst ((levs (fun l => C.lv l cs) x n).map V.int)) → (∀ j < n, itr (fun l => C.lv l cs) (j + 1) x ≠ itr (fun l => C.lv l cs) j x) →
    itr (fun l => C.lv l cs) (n + 1) x = itr (fun l => C.lv l cs) n x → Q (.ref p) H'
theorem ok_levels_until_settled (T : Txt K mg) : FnOk P w K mg base CX0 6 T.f__levels_until_settled T.d__levels_until_settled ["coder", "changes", "level"] (sp_levels K) := by
  refine T.F__levels_until_settled.ok sc_levels_until_settled (fun vs H Q E h => ?_) (fun cdv A outer s H vs Q E hr h => ?_)
  · obtain ⟨c, l, C, cs, x, rfl, _⟩ := h
    rfl
  · obtain ⟨c, l, C, cs, x, rfl, O, hc, hL, hx, q⟩ := h
    refine ⟨_,
(pss_cons (ps_set (i := 3) sc_levels_until_settled.nd rfl (Or.inl rfl) (pe_ifExp (pt_cmpR op_eq (pe_ix ix_tup (pv 0) pe_int (fun _ _ => rfl)) pe_int (nomark _)) (pe_call (ok_limits_behind T) (hr.mono (by decide)) (by rfl) T.g_limits_behind T.F_limits_behind.kp T.b_limits_behind .nil pass0 (pa_cons (pv 0) (pa_cons (pv 1) pa_nil))) pe_non))
      (pss_cons (ps_set (i := 4) sc_levels_until_settled.nd rfl (Or.inl rfl) (pe_lst pa_nil))
      (pss_cons (ps_set (i := 5) sc_levels_until_settled.nd rfl (Or.inl rfl) (pv 2))
      (pss_cons (ps_set (i := 6) sc_levels_until_settled.nd rfl (Or.inl rfl) (pe_call (ok_level_behind_once T) (hr.mono (by decide)) (by rfl) T.g__level_behind_once T.F__level_behind_once.kp T.b__level_behind_once .nil pass0 (pa_cons (pv 0) (pa_cons (pv 1) (pa_cons (pv 3) (pa_cons (pv 5) pa_nil))))))
      (pss_cons (ps_while PassesOwn.never (pt_cmpR op_ne (pv 6) (pv 5) (nomark _)) (pss_cons (ps_expr (pe_bm PySem.F.plainAttrs_list PySem.F.slot_list_append PySem.F.type_list_append mt_append (pv 4) (pa_cons (pv 6) pa_nil)))
      (pss_cons (ps_set (i := 5) sc_levels_until_settled.nd rfl (Or.inl rfl) (pv 6))
      (pss_one (ps_set (i := 6) sc_levels_until_settled.nd rfl (Or.inl rfl) (pe_call (ok_level_behind_once T) (hr.mono (by decide)) (by rfl) T.g__level_behind_once T.F__level_behind_once.kp T.b__level_behind_once .nil pass0 (pa_cons (pv 0) (pa_cons (pv 1) (pa_cons (pv 3) (pa_cons (pv 5) pa_nil))))))))))
      (pss_one (ps_ret (pv 4))))))))
, ?_⟩
    refine st_tail (fun σ H' => ∃ v, σ = [some c, some (.ref l), some (.int x), some v, none, none, none] ∧ Same H H' ∧ LimOk K H' C cs v) ?_ fun tail => ?_
    · rintro σ H1 ⟨v, rfl, s1, hv⟩
      refine ⟨Nat.zero_le _, fun S hS => ?_⟩
      have s2 := s1.trans (same_new (o := .lst []) hS)
      have hS0 := s1.free hS
      have hv2 := hv.same (same_new (o := .lst []) hS)
      refine ⟨_, rfl, _, rfl, _, rfl, _, rfl, _, rfl, c, l, C, cs, v, x, rfl, O, dp_same s2 _ _ hc, s2.seq hL, hv2, hx, fun H2 s3 => ?_⟩
      have hS2 := s3 _ _ (upd_same (H := H1) (a := S) (o := .lst []))
      have s23 := s2.trans s3
      refine ⟨fun cnt σ H' => ∃ n, cnt + n = (C.high - C.low).toNat ∧ σ = [some c, some (.ref l), some (.int x), some v, some (.ref S), some (.int (itr (fun l => C.lv l cs) n x)), some (.int (itr (fun l => C.lv l cs) (n + 1) x))] ∧
        Same H H' ∧ LimOk K H' C cs v ∧ H' S = some (.lst ((levs (fun l => C.lv l cs) x n).map V.int)) ∧ (∀ j < n, itr (fun l => C.lv l cs) (j + 1) x ≠ itr (fun l => C.lv l cs) j x),
        ⟨_, 0, rfl, rfl, s23, hv2.same s3, hS2, fun j hj => absurd hj (Nat.not_lt_zero _)⟩, ?_⟩
      rintro cnt σ H3 ⟨n, hcnt, rfl, s4, hv4, hS4, hmv⟩
      have hin := itr_in (f := fun l => C.lv l cs) (lo := C.low) (hi := C.high) (fun _ hy => lv_in O cs hy) hx (n + 1)
      refine ⟨_, rfl, _, rfl, rfl, _, rfl, ?_⟩
      refine ite2 (fun e => ?_) (fun e => ?_)
      · have e := bne_t e
        have hmv' : ∀ j < n + 1, itr (fun l => C.lv l cs) (j + 1) x ≠ itr (fun l => C.lv l cs) j x := fun j hj => by
          rcases Nat.lt_or_ge j n with h | h
          · exact hmv j h
          · have : j = n := by omega
            rw [this]
            exact e
        have hle := levels_le O hx hmv'
        have := O.l1
        have := O.h2
        refine ⟨_, fun σ' H' hN => hN, ?_⟩
        refine ⟨.ref S, rfl, .inl ⟨rfl, _, SqL.of hS4⟩, _, rfl, S, _, _, rfl, rfl, hS4, ?_, ?_⟩
        · rw [List.length_map, levs_len]
          exact Nat.lt_of_le_of_lt (m := 70000) (by omega) (by decide)
        have s5 := same_put (o := .lst ((levs (fun l => C.lv l cs) x n).map V.int ++ [V.int (itr (fun l => C.lv l cs) (n + 1) x)])) s4 hS0
        have hS5 : (upd H3 S (.lst ((levs (fun l => C.lv l cs) x n).map V.int ++ [V.int (itr (fun l => C.lv l cs) (n + 1) x)]))) S = some (.lst ((levs (fun l => C.lv l cs) x (n + 1)).map V.int)) := by
          rw [upd_same, levs_succ, List.map_append]
          rfl
        have hv5 : LimOk K (upd H3 S (.lst ((levs (fun l => C.lv l cs) x n).map V.int ++ [V.int (itr (fun l => C.lv l cs) (n + 1) x)]))) C cs v := by
          rcases hv4 with h | ⟨h, t, e, ht⟩
          · exact .inl h
          · exact .inr ⟨h, t, e, sqt_set hS4 ht⟩
        refine ⟨_, rfl, _, rfl, _, rfl, _, rfl, _, rfl, c, l, C, cs, v, _, rfl, O, dp_same s5 _ _ hc, s5.seq hL, hv5, hin, fun H6 s6 => ?_⟩
        exact ⟨cnt - 1, by omega, n + 1, by omega, rfl, s5.trans s6, hv5.same s6, s6 _ _ hS5, hmv'⟩
      · exact ⟨_, rfl, q S n H3 s4 hS0 hS4 hmv (bne_f e)⟩
    · have hc' := hc
      obtain ⟨a, s, m, ms, rfl, ha, hs, hm, hmd⟩ := cod_at hc
      refine ⟨_, rfl, a, _, 4, _, rfl, rfl, ha, atI_nat (j := 4) rfl, rfl, _, rfl, ?_⟩
      refine ite2 (fun e => ?_) (fun e => ?_)
      · have e : C.fade = 0 := V.int.inj (of_decide_eq_true e)
        refine ⟨_, rfl, _, rfl, _, l, C, cs, rfl, O, hc', hL, fun t H1 s1 ht => ?_⟩
        exact tail _ _ ⟨_, rfl, s1, .inr ⟨e, t, rfl, ht⟩⟩
      · have e : ¬ C.fade = 0 := fun z => e (decide_eq_true (by rw [z]))
        exact tail _ _ ⟨_, rfl, Same.refl H, .inl ⟨e, rfl⟩⟩
def sp_rests (K : PySem.W.Frag) : Sp := fun vs H Q _ => ∃ (c r x : V) (C : Cod) (row : List Nat) (s : Int × Int), vs = [c, r, x] ∧ C.Ok ∧ Dp K H c C.dat ∧ Dp K H r (rowI row) ∧ C.Row row ∧ Dp K H x (pairI s) ∧ C.St s ∧
  ∀ p xs n H', Same H H' → H p = none → H' p = some (.lst xs) → DpAll K H' xs ((C.reps row s (n + 1)).map pairI) → Rests C row s n → Q (.ref p) H'
theorem ok_states_until_place_rests (T : Txt K mg) : FnOk P w K mg base CX0 6 T.f__states_until_place_rests T.d__states_until_place_rests ["coder", "row", "state"] (sp_rests K) := by
  refine T.F__states_until_place_rests.ok sc_states_until_place_rests (fun vs H Q E h => ?_) (fun cdv A outer s H vs Q E hr h => ?_)
  · obtain ⟨c, r, x, C, row, s, rfl, _⟩ := h
    rfl
  · obtain ⟨c, r, x, C, row, st, rfl, O, hc, hrow, R, hx, hst, q⟩ := h
    refine ⟨_,
(pss_cons (ps_set (i := 3) sc_states_until_place_rests.nd rfl (Or.inl rfl) (pe_lst (pa_cons (pv 2) pa_nil)))
      (pss_cons (ps_set (i := 4) sc_states_until_place_rests.nd rfl (Or.inl rfl) (pe_call (ok_state_behind_row T) (hr.mono (by decide)) (by rfl) T.g_state_behind_row T.F_state_behind_row.kp T.b_state_behind_row .nil pass0 (pa_cons (pv 0) (pa_cons (pv 1) (pa_cons (pv 2) pa_nil)))))
      (pss_cons (ps_while PassesOwn.never (pt_cmpR op_ne (pe_ix ix_tup (pv 4) pe_int (fun _ _ => rfl)) (pe_ix ix_tup (pe_ix ix_list (pv 3) (pe_un un_neg pe_int) (fun _ _ => rfl)) pe_int (fun _ _ => rfl)) (nomark _)) (pss_cons (ps_expr (pe_bm PySem.F.plainAttrs_list PySem.F.slot_list_append PySem.F.type_list_append mt_append (pv 3) (pa_cons (pv 4) pa_nil)))
      (pss_one (ps_set (i := 4) sc_states_until_place_rests.nd rfl (Or.inl rfl) (pe_call (ok_state_behind_row T) (hr.mono (by decide)) (by rfl) T.g_state_behind_row T.F_state_behind_row.kp T.b_state_behind_row .nil pass0 (pa_cons (pv 0) (pa_cons (pv 1) (pa_cons (pv 4) pa_nil))))))))
      (pss_one (ps_ret (pv 3))))))
, ?_⟩
    refine ⟨x, rfl, by show 1 ≤ sizeLine; decide, fun S hS => ?_⟩
    have s1 := same_new (o := .lst [x]) hS
    refine ⟨_, rfl, _, rfl, _, rfl, c, r, x, C, row, st, rfl, O, dp_same s1 _ _ hc, dp_same s1 _ _ hrow, R.lt, dp_same s1 _ _ hx, hst, fun z H1 s2 hz => ?_⟩
    have s12 := s1.trans s2
    refine ⟨fun cnt σ H' => ∃ n xs z, cnt + n = C.steps.length - 1 ∧ σ = [some c, some r, some x, some (.ref S), some z] ∧ Same H H' ∧ H' S = some (.lst xs) ∧ DpAll K H' xs ((C.reps row st (n + 1)).map pairI) ∧
      Dp K H' z (pairI (C.rep row st (n + 1))) ∧ (∀ j < n, (C.rep row st (j + 1)).2 ≠ (C.rep row st j).2),
      ⟨_, 0, [x], z, rfl, rfl, s12, s2 _ _ upd_same, .cons (dp_same s12 _ _ hx) .nil, hz, fun j hj => absurd hj (Nat.not_lt_zero _)⟩, ?_⟩
    rintro cnt σ H2 ⟨n, xs, z2, hcnt, rfl, s3, hS3, hxs, hz2, hmv⟩
    obtain ⟨zb, rfl, hzb⟩ := dp_pair hz2
    have hxs' := hxs
    rw [reps_succ] at hxs'
    obtain ⟨ys, y, rfl, hy⟩ := dp_last hxs'
    obtain ⟨yb, rfl, hyb⟩ := dp_pair hy
    refine ⟨_, rfl, zb, _, 1, _, rfl, rfl, hzb, atI_nat (j := 1) rfl, _, rfl, 1, rfl, S, _, -1, .ref yb, rfl, rfl, SqL.of hS3, atI_last _ _, yb, _, 1, _, rfl, rfl, hyb, atI_nat (j := 1) rfl, rfl, _, rfl, ?_⟩
    refine ite2 (fun e => ?_) (fun e => ?_)
    · have e := bne_t e
      have hmv' : ∀ j < n + 1, (C.rep row st (j + 1)).2 ≠ (C.rep row st j).2 := fun j hj => by
        rcases Nat.lt_or_ge j n with h | h
        · exact hmv j h
        · have : j = n := by omega
          rw [this]
          exact e
      have hle := places_le O hst hmv'
      have hl2 := O.s2
      refine ⟨_, fun σ' H' hN => hN, ?_⟩
      refine ⟨.ref S, rfl, .inl ⟨rfl, _, SqL.of hS3⟩, _, rfl, S, _, _, rfl, rfl, hS3, ?_, ?_⟩
      · rw [dpAll_len hxs, List.length_map, reps_len]
        exact Nat.lt_of_le_of_lt (m := 70000) (by omega) (by decide)
      have s4 := same_put (o := .lst (ys ++ [V.ref yb] ++ [V.ref zb])) s3 (hS)
      have hz4 : Dp K (upd H2 S (.lst (ys ++ [V.ref yb] ++ [V.ref zb]))) (.ref zb) (pairI (C.rep row st (n + 1))) := dp_mkpair (sqt_set hS3 hzb)
      have hxs4 : DpAll K (upd H2 S (.lst (ys ++ [V.ref yb] ++ [V.ref zb]))) (ys ++ [V.ref yb] ++ [V.ref zb]) ((C.reps row st (n + 2)).map pairI) := by
        rw [reps_succ, List.map_append]
        exact dpAll_app (pairs_set hS3 hxs) (.cons hz4 .nil)
      refine ⟨_, rfl, _, rfl, _, rfl, c, r, .ref zb, C, row, _, rfl, O, dp_same s4 _ _ hc, dp_same s4 _ _ hrow, R.lt, hz4, rep_St O hst (n + 1), fun z3 H3 s5 hz3 => ?_⟩
      exact ⟨cnt - 1, by omega, n + 1, _, z3, by omega, rfl, s4.trans s5, s5 _ _ upd_same, dpAll_same s5 _ _ hxs4, hz3, hmv'⟩
    · exact ⟨_, rfl, q S _ n H2 s3 hS hS3 hxs ⟨hmv, bne_f e⟩⟩
def sp_until (K : PySem.W.Frag) : Sp := fun vs H Q _ => ∃ (c r x : V) (C : Cod) (row : List Nat) (s : Int × Int), vs = [c, r, x] ∧ C.Ok ∧ Dp K H c C.dat ∧ Dp K H r (rowI row) ∧ C.Row row ∧ Dp K H x (pairI s) ∧ C.St s ∧
  ∀ p xs T n H', Same H H' → H p = none → H' p = some (.lst xs) → DpAll K H' xs ((C.reps row s (T + 1)).map pairI) → Settles C row s T n → Q (.ref p) H'
theorem ok_states_until_settled (T : Txt K mg) : FnOk P w K mg base CX0 7 T.f__states_until_settled T.d__states_until_settled ["coder", "row", "state"] (sp_until K) := by
  refine T.F__states_until_settled.ok sc_states_until_settled (fun vs H Q E h => ?_) (fun cdv A outer s H vs Q E hr h => ?_)
  · obtain ⟨c, r, x, C, row, s, rfl, _⟩ := h
    rfl
  · obtain ⟨c, r, x, C, row, st, rfl, O, hc, hrow, R, hx, hst, q⟩ := h
    refine ⟨_,
(pss_cons (ps_set (i := 3) sc_states_until_settled.nd rfl (Or.inl rfl) (pe_call (ok_states_until_place_rests T) (hr.mono (by decide)) (by rfl) T.g__states_until_place_rests T.F__states_until_place_rests.kp T.b__states_until_place_rests .nil pass0 (pa_cons (pv 0) (pa_cons (pv 1) (pa_cons (pv 2) pa_nil)))))
      (pss_cons (ps_asg (pe_ix ix_list (pv 3) (pe_un un_neg pe_int) (fun _ _ => rfl)) (pg_tup (by rfl) (pgs_cons (pg_name (i := 4) sc_states_until_settled.nd rfl (Or.inl rfl)) (pgs_cons (pg_name (i := 5) sc_states_until_settled.nd rfl (Or.inr rfl)) pgs_nil))))
      (pss_cons (ps_set (i := 6) sc_states_until_settled.nd rfl (Or.inl rfl) (pe_ix ix_tup (pe_call (ok_changes_along T) (hr.mono (by decide)) (by rfl) T.g_changes_along T.F_changes_along.kp T.b_changes_along .nil pass0 (pa_cons (pv 0) (pa_cons (pv 1) (pa_cons (pv 5) pa_nil)))) pe_int (fun _ _ => rfl)))
      (pss_one (ps_ret (pe_op op_cat (pv 3) (pe_lc (own := [("behind", 7)]) rfl sc_states_until_settled.nd (pi_list (pe_call (ok_levels_until_settled T) (hr.mono (by decide)) (by rfl) T.g__levels_until_settled T.F__levels_until_settled.kp T.b__levels_until_settled .nil pass0 (pa_cons (pv 0) (pa_cons (pv 6) (pa_cons (pv 4) pa_nil))))) (blkOk_by (own := [("behind", 7)]) (N := ["coder", "row", "state", "states", "level", "place", "changes", "behind"]) (sc := defScope s_states_until_settled) (by decide +kernel)) (fun _ _ _ _ _ => (pg_name (i := 7) sc_states_until_settled.nd rfl (Or.inl rfl))) (fun _ _ _ _ _ => pts_nil) (fun _ _ _ _ _ => (pe_tup (pa_cons (pv 7) (pa_cons (pv 5) pa_nil)))))))))))
, ?_⟩
    refine ⟨_, rfl, _, rfl, _, rfl, c, r, x, C, row, st, rfl, O, hc, hrow, R, hx, hst, fun S xs n H1 s1 hS0 hS1 hxs hr1 => ?_⟩
    have hxs' := hxs
    rw [reps_succ] at hxs'
    obtain ⟨ys, y, rfl, hy⟩ := dp_last hxs'
    obtain ⟨yb, rfl, hyb⟩ := dp_pair hy
    have hSt := rep_St O (row := row) hst n
    refine ⟨_, rfl, 1, rfl, S, _, -1, .ref yb, rfl, rfl, SqL.of hS1, atI_last _ _, yb, _, rfl, hyb, rfl, _, _, rfl, _, _, rfl, rfl, ?_⟩
    refine ⟨_, rfl, _, rfl, _, rfl, c, r, C, row, (C.rep row st n).2, rfl, O, dp_same s1 _ _ hc, dp_same s1 _ _ hrow, R, ⟨hSt.2.2.1, by have := hSt.2.2.2; omega⟩, fun t l H2 s2 hl0 hl2 ht2 => ⟨t, _, 0, _, rfl, rfl, ht2, atI_nat (j := 0) rfl, ?_⟩⟩
    have s12 := s1.trans s2
    refine ⟨_, rfl, _, rfl, _, rfl, _, rfl, c, l, C, _, (C.rep row st n).1, rfl, O, dp_same s12 _ _ hc, SqL.of hl2, ⟨hSt.1, hSt.2.1⟩, fun p k H3 s3 hp0 hp3 mv st' => ?_⟩
    have hset := settles_of O hst hr1 mv st'
    have hk : k ≤ 70000 := by
      have := hset.tm
      have := O.s2
      have := O.l1
      have := O.h2
      omega
    have s13 := s12.trans s3
    refine ⟨p, rfl, ⟨_, SqL.of hp3⟩, fun D hD => ?_⟩
    have hD0 := s13.free hD
    refine lc_list (K := K) (a := p) (xs := (levs (fun l => C.lv l (C.chs (C.rep row st n).2 row)) (C.rep row st n).1 k).map V.int)
      (fun i H' => ∃ zs, H' D = some (.lst zs) ∧ Same H3 H' ∧ DpAll K H' zs ((((levs (fun l => C.lv l (C.chs (C.rep row st n).2 row)) (C.rep row st n).1 k).take i).map fun l => (l, (C.rep row st n).2)).map pairI)) ⟨[], upd_same, same_new hD, .nil⟩ ?_ ?_ ?_
    · rintro i H' _ ⟨zs, _, s4, _⟩
      exact s4.seq (SqL.of hp3)
    · rintro i v H' hvi ⟨zs, hD4, s4, hzs⟩
      obtain ⟨z, hz, rfl⟩ : ∃ z, (levs (fun l => C.lv l (C.chs (C.rep row st n).2 row)) (C.rep row st n).1 k)[i]? = some z ∧ v = .int z := by
        rw [List.getElem?_map] at hvi
        cases e : (levs (fun l => C.lv l (C.chs (C.rep row st n).2 row)) (C.rep row st n).1 k)[i]? with
        | none => rw [e] at hvi; cases hvi
        | some d => rw [e] at hvi; exact ⟨d, rfl, (Option.some.inj hvi).symm⟩
      have hi := (List.getElem?_eq_some_iff.mp hz).1
      rw [levs_len] at hi
      refine ⟨rfl, yes_turn ?_⟩
      refine ⟨_, rfl, _, rfl, by show 2 ≤ sizeLine; decide, fun b hb => ?_⟩
      have sb := same_new (o := .tup [V.int z, V.int (C.rep row st n).2]) hb
      have hD5 := sb _ _ hD4
      refine ⟨zs, hD5, ?_, zs ++ [.ref b], upd_same, same_put (s4.trans sb) hD, ?_⟩
      · rw [dpAll_len hzs, List.length_map, List.length_map, List.length_take, levs_len]
        exact Nat.lt_of_le_of_lt (m := 70000) (by omega) (by decide)
      · rw [take_snoc hz, List.map_append, List.map_append]
        exact dpAll_app (pairs_set hD5 (dpAll_same sb _ _ hzs)) (.cons (dp_mkpair (s := (z, (C.rep row st n).2)) (sqt_set hD5 upd_tup)) .nil)
    · rintro H4 ⟨zs, hD4, s4, hzs⟩
      rw [List.length_map, levs_len, List.take_of_length_le (by rw [levs_len]; exact Nat.le_refl _)] at hzs
      have hS4 := (s2.trans (s3.trans s4)) _ _ hS1
      have hlen : ys.length + 1 = n + 1 := by
        have := dpAll_len hxs
        rw [List.length_append, List.length_map, reps_len] at this
        exact this
      have hlz : zs.length = k := by rw [dpAll_len hzs, List.length_map, List.length_map, levs_len]
      refine ⟨S, D, _, _, rfl, rfl, hS4, hD4, ?_, fun f hf => ?_⟩
      · rw [List.length_append, hlz]
        have := hset.pm
        have := O.s2
        exact Nat.le_trans (m := 80000) (by show ys.length + 1 + k ≤ 80000; omega) (by decide)
      · have s5 := same_new (o := .lst (ys ++ [V.ref yb] ++ zs)) hf
        refine q f _ (n + k) n _ ((s13.trans s4).trans s5) ((s13.trans s4).free hf) upd_same ?_ hset
        rw [reps_levs hr1.st, List.map_append]
        exact dpAll_app (dpAll_same ((s2.trans (s3.trans s4)).trans s5) _ _ hxs) (dpAll_same s5 _ _ hzs)
def sp_times (K : PySem.W.Frag) : Sp := fun vs H Q _ => ∃ (c r x : V) (C : Cod) (row : List Nat) (s : Int × Int) (n : Int), vs = [c, r, .int n, x] ∧ 0 ≤ n ∧ C.Ok ∧ Dp K H c C.dat ∧ Dp K H r (rowI row) ∧ C.Row row ∧ Dp K H x (pairI s) ∧ C.St s ∧
  ∀ z H', Same H H' → Dp K H' z (pairI (C.rep row s n.toNat)) → Q z H'
theorem ok_state_behind_times (T : Txt K mg) : FnOk P w K mg base CX0 8 T.f__state_behind_times T.d__state_behind_times ["coder", "row", "times", "state"] (sp_times K) := by
  refine T.F__state_behind_times.ok sc_state_behind_times (fun vs H Q E h => ?_) (fun cdv A outer s H vs Q E hr h => ?_)
  · obtain ⟨c, r, x, C, row, s, n, rfl, _⟩ := h
    rfl
  · obtain ⟨c, r, x, C, row, st, n, rfl, n0, O, hc, hrow, R, hx, hst, q⟩ := h
    refine ⟨_,
(pss_cons (ps_set (i := 4) sc_state_behind_times.nd rfl (Or.inl rfl) (pe_call (ok_states_until_settled T) (hr.mono (by decide)) (by rfl) T.g__states_until_settled T.F__states_until_settled.kp T.b__states_until_settled .nil pass0 (pa_cons (pv 0) (pa_cons (pv 1) (pa_cons (pv 3) pa_nil)))))
      (pss_one (ps_ret (pe_ix ix_list (pv 4) (pe_callB (call_min2 rfl) (by rfl) T.z_min (by decide +kernel) (pa_cons (pv 2) (pa_cons (pe_op op_sub (pe_callB call_len_seq (by rfl) T.z_len (by decide +kernel) (pa_cons (pv 4) pa_nil)) pe_int) pa_nil))) (fun _ _ => rfl)))))
, ?_⟩
    refine ⟨_, rfl, _, rfl, _, rfl, c, r, x, C, row, st, rfl, O, hc, hrow, R, hx, hst, fun S xs T n' H1 s1 hS0 hS1 hxs hset => ?_⟩
    have hl : xs.length = T + 1 := by rw [dpAll_len hxs, List.length_map, reps_len]
    have hm : min n.toNat T < T + 1 := by omega
    obtain ⟨z, hz, hzd⟩ := dpAll_get' hxs (i := min n.toNat T) (d := pairI (C.rep row st (min n.toNat T))) (by
      unfold Cod.reps
      rw [List.getElem?_map, List.getElem?_map, List.getElem?_range hm]
      rfl)
    rw [hset.min] at hzd
    refine ⟨_, rfl, _, rfl, _, rfl, S, _, rfl, .inl (SqL.of hS1), _, _, rfl, rfl, _, _, rfl, S, xs, ((min n.toNat T : Nat) : Int), z, rfl, ?_, SqL.of hS1, atI_nat hz, q z H1 s1 hzd⟩
    show V.int _ = V.int _
    congr 1
    rw [hl]
    split <;> omega
end
end My

namespace My
open PySem PySem.Spec PyProof.Rows L2
/-! ### what is right passes; the calls on repeated rows -/
def Cod.cnt (C : Cod) : Int := (C.high - C.low + 1) * (C.steps.length : Int)
def rowD (C : Cod) : PyData → Bool
  | .tuple ds => decide (ds.length ≤ 2000) && ds.all fun d => btw d 0 ((C.moves.length : Int) - 1)
  | _ => false
theorem Cod.Row.ok {C : Cod} {r : List Nat} (h : C.Row r) : rowD C (rowI r) = true := by
  show (decide _ && _) = true
  rw [decide_eq_true (by rw [List.length_map]; exact h.len), Bool.true_and, List.all_eq_true]
  intro d hd
  obtain ⟨k, hk, rfl⟩ := List.mem_map.mp hd
  have := h.lt k hk
  exact btw_in (by omega) (by omega)
theorem sl_takeI {K : PySem.W.Frag} {H : Hp} {a : Addr} {r : List Nat} {i : Int} {Q : VK} (h : SqT K H a (rowV r)) (h0 : 0 ≤ i) (hn : i ≤ (r.length : Int)) (k : ∀ v H', Same H H' → Dp K H' v (rowI (r.take i.toNat)) → Q v H') :
    rSlA K (.ref a) none (some i) H Q := by
  obtain ⟨n, rfl⟩ := Int.eq_ofNat_of_zero_le h0
  exact sl_take h (by omega) k
section
variable {P : Program} {w : World} {K : PySem.W.Frag} {mg : Str → Option Value} {base : Heap}
def sp_need_state (K : PySem.W.Frag) : Sp := fun vs H Q _ => ∃ (c x : V) (C : Cod) (d : PyData), vs = [c, x] ∧ Dp K H c C.dat ∧ Dp K H x d ∧ stateD C d = true ∧ ∀ H', Same H H' → Q .non H'
theorem ok_need_state (T : Txt K mg) : FnOk P w K mg base CX0 5 T.f_need_state T.d_need_state ["coder", "thing"] (sp_need_state K) := by
  refine T.F_need_state.ok sc_need_state (fun vs H Q E h => ?_) (fun cdv A outer s H vs Q E hr h => ?_)
  · obtain ⟨c, x, C, d, rfl, _⟩ := h
    rfl
  · obtain ⟨c, x, C, d, rfl, hc, hd, h0, q⟩ := h
    refine ⟨_,
(pss_one (ps_if (pt_not (pt_val (pe_call (ok_is_state T) (hr.mono (by decide)) (by rfl) T.g_is_state T.F_is_state.kp T.b_is_state .nil pass0 (pa_cons (pv 0) (pa_cons (pv 1) pa_nil))))) (pss_one ps_never) pss_nil))
, ?_⟩
    refine ⟨_, rfl, _, rfl, c, x, C, d, rfl, hc, hd, fun H1 s1 => ⟨_, rfl, ?_⟩⟩
    rw [h0]
    exact iteF (q H1 s1)
def sp_need_row (K : PySem.W.Frag) : Sp := fun vs H Q _ => ∃ (c x : V) (C : Cod) (d : PyData), vs = [c, x] ∧ Dp K H c C.dat ∧ Dp K H x d ∧ rowD C d = true ∧ ∀ H', Same H H' → Q .non H'
theorem ok_need_row (T : Txt K mg) : FnOk P w K mg base CX0 4 T.f_need_row T.d_need_row ["coder", "thing"] (sp_need_row K) := by
  refine T.F_need_row.ok sc_need_row (fun vs H Q E h => ?_) (fun cdv A outer s H vs Q E hr h => ?_)
  · obtain ⟨c, x, C, d, rfl, _⟩ := h
    rfl
  · obtain ⟨c, x, C, d, rfl, hc, hd, h0, q⟩ := h
    obtain ⟨ds, rfl⟩ : ∃ ds, d = .tuple ds := by
      cases d with
      | tuple ds => exact ⟨ds, rfl⟩
      | _ => cases h0
    obtain ⟨h1, h2⟩ := Bool.and_eq_true_iff.mp (show (decide (ds.length ≤ 2000) && ds.all fun d => btw d 0 ((C.moves.length : Int) - 1)) = true from h0)
    have hl := of_decide_eq_true h1
    have hall := List.all_eq_true.mp h2
    refine ⟨_,
(pss_cons (ps_if (pt_not (pt_val (pe_callB call_isi (by rfl) T.z_isinstance (by decide +kernel) (pa_cons (pv 1) (pa_cons (pe_bltn (v := .ty "tuple") (by rfl) T.z_tuple (by decide +kernel) rfl) pa_nil))))) (pss_one ps_never) pss_nil)
      (pss_one (ps_for PassesOwn.never rfl (My.pi_enumT (by rfl) T.z_enumerate (pa_cons (pv 1) pa_nil)) (pg_tup (by rfl) (pgs_cons (pg_name (i := 2) sc_need_row.nd rfl (Or.inl rfl)) (pgs_cons (pg_name (i := 3) sc_need_row.nd rfl (Or.inl rfl)) pgs_nil))) (pss_one (ps_if (PW.pt (pw_or (pt_cmpR op_eq (pv 2) (pe_glob (v := .int 2000) (by rfl) T.g_MOST_CODES ⟨_, rfl⟩) (nomark _)) (pw_or1 (pt_not (pt_val (pe_call (ok_is_code T) (hr.mono (by decide)) (by rfl) T.g_is_code T.F_is_code.kp T.b_is_code .nil pass0 (pa_cons (pv 0) (pa_cons (pv 3) pa_nil)))))))) (pss_one ps_never) pss_nil)))))
, ?_⟩
    refine ⟨x, rfl, x, .ty "tuple", _, _, _, rfl, .ty _, tyx hd, kitT _, _, rfl, ?_⟩
    refine iteF ?_
    obtain ⟨a, xs, rfl, ha, hds⟩ := dp_tup hd
    have hlx := dpAll_len hds
    refine ⟨.ref a, rfl, a, xs, rfl, ha, ?_⟩
    refine for_enumT (K := K) (a := a) (xs := xs) (fun i σ H' => ∃ y1 y2, σ = [some c, some (.ref a), y1, y2] ∧ Same H H') ⟨none, none, rfl, Same.refl H⟩ ?_ ?_ ?_
    · rintro i σ H' _ ⟨_, _, _, s2⟩
      exact same_tup s2 ha
    · rintro i v σ H' p hi ⟨y1, y2, rfl, s2⟩ hp
      obtain ⟨dv, hdv, hv⟩ := dpAll_get hds hi
      have hib := (List.getElem?_eq_some_iff.mp hi).1
      have s3 := s2.trans (same_new (o := .tup [.int (i : Nat), v]) hp)
      have hg := hall dv (List.mem_of_getElem? hdv)
      refine ⟨p, _, rfl, upd_tup, rfl, _, _, rfl, _, _, rfl, rfl, ?_⟩
      refine ⟨_, rfl, rfl, _, rfl, ?_⟩
      have e : decide (V.int (i : Int) = V.int 2000) = false := decide_eq_false fun z => by
        have := V.int.inj z
        omega
      show if decide (V.int (i : Int) = V.int 2000) = true then _ else _
      rw [e]
      refine iteF ?_
      refine ⟨_, rfl, _, rfl, c, v, C, dv, rfl, dp_same s3 _ _ hc, dp_same s3 _ _ hv, fun H2 s4 => ⟨_, rfl, ?_⟩⟩
      rw [hg]
      refine iteF ?_
      exact ⟨_, _, rfl, s3.trans s4⟩
    · rintro σ H' ⟨_, _, rfl, s2⟩
      exact q H' s2
def sp_need_place (K : PySem.W.Frag) : Sp := fun vs H Q _ => ∃ (c : V) (C : Cod) (p : Int), vs = [c, .int p] ∧ Dp K H c C.dat ∧ C.pIn p ∧ ∀ H', Same H H' → Q .non H'
theorem ok_need_place (T : Txt K mg) : FnOk P w K mg base CX0 4 T.f_need_place T.d_need_place ["coder", "thing"] (sp_need_place K) := by
  refine T.F_need_place.ok sc_need_place (fun vs H Q E h => ?_) (fun cdv A outer s H vs Q E hr h => ?_)
  · obtain ⟨c, C, p, rfl, _⟩ := h
    rfl
  · obtain ⟨c, C, p, rfl, hc, hp, q⟩ := h
    refine ⟨_,
(pss_one (ps_if (pt_not (pt_val (pe_call (ok_is_place T) (hr.mono (by decide)) (by rfl) T.g_is_place T.F_is_place.kp T.b_is_place .nil pass0 (pa_cons (pv 0) (pa_cons (pv 1) pa_nil))))) (pss_one ps_never) pss_nil))
, ?_⟩
    refine ⟨_, rfl, _, rfl, c, .int p, C, .int p, rfl, hc, .int p, fun H1 s1 => ⟨_, rfl, ?_⟩⟩
    rw [btw_in hp.1 hp.2]
    exact iteF (q H1 s1)
def sp_need_times (K : PySem.W.Frag) : Sp := fun vs H Q _ => ∃ (p : Int), vs = [.int p] ∧ 0 ≤ p ∧ p ≤ 10 ^ 30 ∧ ∀ H', Same H H' → Q .non H'
theorem ok_need_times (T : Txt K mg) : FnOk P w K mg base CX0 3 T.f_need_times T.d_need_times ["thing"] (sp_need_times K) := by
  refine T.F_need_times.ok sc_need_times (fun vs H Q E h => ?_) (fun cdv A outer s H vs Q E hr h => ?_)
  · obtain ⟨p, rfl, _⟩ := h
    rfl
  · obtain ⟨p, rfl, h0, h1, q⟩ := h
    refine ⟨_,
(pss_one (ps_if (pt_not (pt_val (pe_call (ok_is_between T) (hr.mono (by decide)) (by rfl) T.g_is_between T.F_is_between.kp T.b_is_between .nil pass0 (pa_cons (pv 0) (pa_cons pe_int (pa_cons (pe_op op_pow pe_int pe_int) pa_nil)))))) (pss_one ps_never) pss_nil))
, ?_⟩
    refine ⟨_, rfl, 10, 30, rfl, rfl, ⟨by decide, by decide, by decide⟩, .int p, .int p, 0, 10 ^ 30, rfl, .int p, fun H1 s1 => ⟨_, rfl, ?_⟩⟩
    rw [btw_in h0 h1]
    exact iteF (q H1 s1)
def sp_need_few (K : PySem.W.Frag) : Sp := fun vs H Q _ => ∃ (c : V) (C : Cod) (most : Int), vs = [c, .int most] ∧ C.Ok ∧ Dp K H c C.dat ∧ C.cnt ≤ most ∧ ∀ H', Same H H' → Q .non H'
theorem ok_need_few_states (T : Txt K mg) : FnOk P w K mg base CX0 3 T.f_need_few_states T.d_need_few_states ["coder", "most"] (sp_need_few K) := by
  refine T.F_need_few_states.ok sc_need_few_states (fun vs H Q E h => ?_) (fun cdv A outer s H vs Q E hr h => ?_)
  · obtain ⟨c, C, most, rfl, _⟩ := h
    rfl
  · obtain ⟨c, C, most, rfl, O, hc, few, q⟩ := h
    obtain ⟨a, s, mm, ms, rfl, ha, hs, hm, hmd⟩ := cod_at hc
    refine ⟨_,
(pss_cons (ps_asg (pe_slice sl_tupA (pv 0) po_none (po_some pe_int)) (pg_tup (by rfl) (pgs_cons (pg_name (i := 2) sc_need_few_states.nd rfl (Or.inl rfl)) (pgs_cons (pg_name (i := 3) sc_need_few_states.nd rfl (Or.inl rfl)) (pgs_cons (pg_name (i := 4) sc_need_few_states.nd rfl (Or.inl rfl)) pgs_nil)))))
      (pss_one (ps_if (pt_cmpR op_gt (pe_op op_mul (pe_op op_add (pe_op op_sub (pv 3) (pv 2)) pe_int) (pe_callB call_len_seq (by rfl) T.z_len (by decide +kernel) (pa_cons (pv 4) pa_nil))) (pv 1) (nomark _)) (pss_one ps_never) pss_nil)))
, ?_⟩
    refine ⟨_, rfl, 3, rfl, a, _, rfl, ha, fun hw => absurd (show (3 : Nat) = 5 from hw.2) (by decide), fun _ p hp => ?_⟩
    rw [cut3]
    have s1 := same_new (o := .tup [V.int C.low, V.int C.high, V.ref s]) hp
    refine ⟨p, _, rfl, upd_tup, rfl, _, _, rfl, _, _, rfl, _, _, rfl, rfl, ?_⟩
    generalize upd H p (.tup [V.int C.low, V.int C.high, V.ref s]) = H1 at s1
    have l1 := O.l1
    have l2 := O.l2
    have h1 := O.h1
    have h2 := O.h2
    refine ⟨_, rfl, _, rfl, _, _, rfl, rfl, _, _, rfl, rfl, _, rfl, s, _, rfl, .inr (same_tup s1 hs), _, _, rfl, rfl, .inl ⟨by omega, by omega⟩, _, rfl, _, _, rfl, rfl, _, rfl, ?_⟩
    have ec : (C.high - C.low + 1) * (((C.steps.map V.int).length : Nat) : Int) = C.cnt := by rw [List.length_map]; rfl
    rw [ec, decide_eq_false (by omega)]
    exact iteF (q _ s1)
def sp_need_cr (K : PySem.W.Frag) : Sp := fun vs H Q _ => ∃ (c r : V) (C : Cod) (row : List Nat), vs = [c, r] ∧ C.Ok ∧ Dp K H c C.dat ∧ Dp K H r (rowI row) ∧ C.Row row ∧ C.cnt ≤ 4096 ∧ ∀ H', Same H H' → Q .non H'
theorem ok_need_coder_and_row (T : Txt K mg) : FnOk P w K mg base CX0 7 T.f__need_coder_and_row T.d__need_coder_and_row ["coder", "row"] (sp_need_cr K) := by
  refine T.F__need_coder_and_row.ok sc_need_coder_and_row (fun vs H Q E h => ?_) (fun cdv A outer s H vs Q E hr h => ?_)
  · obtain ⟨c, r, C, row, rfl, _⟩ := h
    rfl
  · obtain ⟨c, r, C, row, rfl, O, hc, hrow, R, few, q⟩ := h
    refine ⟨_,
(pss_cons (ps_expr (pe_call (ok_need_coder T) (hr.mono (by decide)) (by rfl) T.g_need_coder T.F_need_coder.kp T.b_need_coder .nil pass0 (pa_cons (pv 0) pa_nil)))
      (pss_cons (ps_expr (pe_call (ok_need_few_states T) (hr.mono (by decide)) (by rfl) T.g_need_few_states T.F_need_few_states.kp T.b_need_few_states .nil pass0 (pa_cons (pv 0) (pa_cons pe_int pa_nil))))
      (pss_one (ps_expr (pe_call (ok_need_row T) (hr.mono (by decide)) (by rfl) T.g_need_row T.F_need_row.kp T.b_need_row .nil pass0 (pa_cons (pv 0) (pa_cons (pv 1) pa_nil)))))))
, ?_⟩
    refine ⟨_, rfl, c, C.dat, rfl, hc, O.first, fun H1 s1 => ?_⟩
    refine ⟨_, rfl, c, C, 4096, rfl, O, dp_same s1 _ _ hc, few, fun H2 s2 => ?_⟩
    have s12 := s1.trans s2
    exact ⟨_, rfl, _, rfl, c, r, C, _, rfl, dp_same s12 _ _ hc, dp_same s12 _ _ hrow, R.ok, fun H3 s3 => q H3 (s12.trans s3)⟩
def sp_last_of (K : PySem.W.Frag) : Sp := fun vs H Q _ => ∃ (c r x : V) (C : Cod) (row : List Nat) (s : Int × Int) (n : Int), vs = [c, r, .int n, x] ∧ 0 ≤ n ∧ n ≤ 10 ^ 30 ∧ C.Ok ∧ Dp K H c C.dat ∧ Dp K H r (rowI row) ∧ C.Row row ∧ C.cnt ≤ 4096 ∧ Dp K H x (pairI s) ∧ C.St s ∧
  ∀ z H', Same H H' → Dp K H' z (pairI (C.rep row s n.toNat)) → Q z H'
theorem ok_last_of (T : Txt K mg) : FnOk P w K mg base CX0 9 T.f_last_of T.d_last_of ["coder", "row", "times", "state"] (sp_last_of K) := by
  refine okD0 T.F_last_of sc_last_of (fun vs H Q E h => ?_) (fun cdv A outer s H vs Q E hr h => ?_)
  · obtain ⟨c, r, x, C, row, s, n, rfl, _⟩ := h
    rfl
  · obtain ⟨c, r, x, C, row, st, n, rfl, n0, n1, O, hc, hrow, R, few, hx, hst, q⟩ := h
    refine ⟨_,
(pss_cons (ps_expr (pe_call (ok_need_coder_and_row T) (hr.mono (by decide)) (by rfl) T.g__need_coder_and_row T.F__need_coder_and_row.kp T.b__need_coder_and_row .nil pass0 (pa_cons (pv 0) (pa_cons (pv 1) pa_nil))))
      (pss_cons (ps_expr (pe_call (ok_need_times T) (hr.mono (by decide)) (by rfl) T.g_need_times T.F_need_times.kp T.b_need_times .nil pass0 (pa_cons (pv 2) pa_nil)))
      (pss_cons (ps_expr (pe_call (ok_need_state T) (hr.mono (by decide)) (by rfl) T.g_need_state T.F_need_state.kp T.b_need_state .nil pass0 (pa_cons (pv 0) (pa_cons (pv 3) pa_nil))))
      (pss_one (ps_ret (pe_call (ok_state_behind_times T) (hr.mono (by decide)) (by rfl) T.g__state_behind_times T.F__state_behind_times.kp T.b__state_behind_times .nil pass0 (pa_cons (pv 0) (pa_cons (pv 1) (pa_cons (pv 2) (pa_cons (pv 3) pa_nil))))))))))
, ?_⟩
    refine ⟨_, rfl, _, rfl, c, r, C, row, rfl, O, hc, hrow, R, few, fun H1 s1 => ?_⟩
    refine ⟨_, rfl, n, rfl, n0, n1, fun H2 s2 => ?_⟩
    have s12 := s1.trans s2
    refine ⟨_, rfl, _, rfl, c, x, C, _, rfl, dp_same s12 _ _ hc, dp_same s12 _ _ hx, hst.ok, fun H3 s3 => ?_⟩
    have s13 := s12.trans s3
    exact ⟨_, rfl, _, rfl, _, rfl, _, rfl, c, r, x, C, row, st, n, rfl, n0, O, dp_same s13 _ _ hc, dp_same s13 _ _ hrow, R, dp_same s13 _ _ hx, hst, fun z H4 s4 hz => q z H4 (s13.trans s4) hz⟩
end
end My

set_option pp.maxSteps 600
namespace My
open PySem PySem.Spec PyProof.Rows L2
/-! ### the map of a row -/
def Cod.wd (C : Cod) : Nat := (C.high + 1 - C.low).toNat
def upto (f : Nat → Int) (n : Nat) : List Int := (List.range n).map f
theorem upto_succ (f : Nat → Int) (n : Nat) : upto f (n + 1) = upto f n ++ [f n] := by
  unfold upto
  rw [List.range_succ, List.map_append]
  rfl
theorem upto_len (f : Nat → Int) (n : Nat) : (upto f n).length = n := by
  unfold upto
  rw [List.length_map, List.length_range]
theorem upto_get {f : Nat → Int} {n i : Nat} {x : Int} (h : (upto f n)[i]? = some x) : i < n ∧ x = f i := by
  have hi : i < n := by
    have := (List.getElem?_eq_some_iff.mp h).1
    rw [upto_len] at this
    exact this
  unfold upto at h
  rw [List.getElem?_map, List.getElem?_range hi] at h
  exact ⟨hi, (Option.some.inj h).symm⟩
theorem upto_at {f : Nat → Int} {n i : Nat} (h : i < n) : ((upto f n).map V.int)[i]? = some (V.int (f i)) := by
  unfold upto
  rw [List.getElem?_map, List.getElem?_map, List.getElem?_range h]
  rfl
def Cod.mapL (C : Cod) (cs : List Int) : List Int := upto (fun i => C.lv (C.low + (i : Int)) cs) C.wd
theorem int_at {zs : List Int} {i : Nat} {v : V} (h : (zs.map V.int)[i]? = some v) : ∃ z, zs[i]? = some z ∧ v = .int z := by
  rw [List.getElem?_map] at h
  cases e : zs[i]? with
  | none => rw [e] at h; cases h
  | some z => rw [e] at h; exact ⟨z, rfl, (Option.some.inj h).symm⟩
theorem wd_in {C : Cod} {i : Nat} (h : i < C.wd) : C.lIn (C.low + (i : Int)) := by
  unfold Cod.wd at h
  exact ⟨by omega, by omega⟩
theorem wd_le {C : Cod} (O : C.Ok) : C.wd ≤ 65536 := by
  unfold Cod.wd
  have := O.l1
  have := O.h2
  omega
section
variable {P : Program} {w : World} {K : PySem.W.Frag} {mg : Str → Option Value} {base : Heap}
def sp_levels_behind (K : PySem.W.Frag) : Sp := fun vs H Q _ => ∃ (c : V) (l : Addr) (C : Cod) (cs : List Int), vs = [c, .ref l] ∧ C.Ok ∧ Dp K H c C.dat ∧ SqL K H l (cs.map V.int) ∧ cs.length ≤ 63 ∧
  ∀ p H', Same H H' → H p = none → H' p = some (.lst ((C.mapL cs).map V.int)) → Q (.ref p) H'
set_option maxHeartbeats 4000000 in
theorem ok_levels_behind (T : Txt K mg) : FnOk P w K mg base CX0 6 T.f_levels_behind T.d_levels_behind ["coder", "changes"] (sp_levels_behind K) := by
  refine T.F_levels_behind.ok sc_levels_behind (fun vs H Q E h => ?_) (fun cdv A outer s H vs Q E hr h => ?_)
  · obtain ⟨c, l, C, cs, rfl, _⟩ := h
    rfl
  · obtain ⟨c, l, C, cs, rfl, O, hc, hL, few, q⟩ := h
    have hu := hu_of hr
    refine ⟨_,
(pss_cons (ps_asg (pe_tup (pa_cons (pe_ix ix_tup (pv 0) pe_int (fun _ _ => rfl)) (pa_cons (pe_ix ix_tup (pv 0) pe_int (fun _ _ => rfl)) (pa_cons (pe_ix ix_tup (pv 0) pe_int (fun _ _ => rfl)) pa_nil)))) (pg_tup (by rfl) (pgs_cons (pg_name (i := 2) sc_levels_behind.nd rfl (Or.inr rfl)) (pgs_cons (pg_name (i := 3) sc_levels_behind.nd rfl (Or.inr rfl)) (pgs_cons (pg_name (i := 4) sc_levels_behind.nd rfl (Or.inr rfl)) pgs_nil)))))
      (pss_cons (ps_if (pt_cmpR op_eq (pv 4) pe_int (nomark _)) (pss_cons (ps_asg (pe_call (ok_limits_behind T) (hr.mono (by decide)) (by rfl) T.g_limits_behind T.F_limits_behind.kp T.b_limits_behind .nil pass0 (pa_cons (pv 0) (pa_cons (pv 1) pa_nil))) (pg_tup (by rfl) (pgs_cons (pg_name (i := 5) sc_levels_behind.nd rfl (Or.inr rfl)) (pgs_cons (pg_name (i := 6) sc_levels_behind.nd rfl (Or.inr rfl)) (pgs_cons (pg_name (i := 7) sc_levels_behind.nd rfl (Or.inr rfl)) pgs_nil)))))
      (pss_one (ps_ret (pe_lc (own := [("level", 13)]) rfl sc_levels_behind.nd (pi_range2 (by rfl) T.z_range (pa_cons (pv 2) (pa_cons (pe_op op_add (pv 3) pe_int) pa_nil))) (blkOk_by (own := [("level", 13)]) (N := ["coder", "changes", "low", "high", "fade", "total", "least", "most", "left", "led", "change", "indexes", "behind", "level", "index"]) (sc := defScope s_levels_behind) (by decide +kernel)) (fun _ _ _ _ _ => (pg_name (i := 13) sc_levels_behind.nd rfl (Or.inl rfl))) (fun _ _ _ _ _ => pts_nil) (fun _ _ _ _ _ => (pe_call (ok_limited T) (hr.mono (by decide)) (by rfl) T.g_limited T.F_limited.kp T.b_limited .nil pass0 (pa_cons (pe_op op_add (pv 13) (pv 5)) (pa_cons (pv 6) (pa_cons (pv 7) pa_nil))))))))) pss_nil)
      (pss_cons (ps_setLc (i := 8) (own := [("level", 13)]) rfl sc_levels_behind.nd rfl rfl (sw_true rfl rfl rfl (by decide +kernel)) (pi_range2 (by rfl) T.z_range (pa_cons (pv 2) (pa_cons (pe_op op_add (pv 3) pe_int) pa_nil))) (blkOk_by (own := [("level", 13)]) (N := ["coder", "changes", "low", "high", "fade", "total", "least", "most", "left", "led", "change", "indexes", "behind", "level", "index"]) (sc := defScope s_levels_behind) (by decide +kernel)) (fun _ _ _ _ _ => (pg_name (i := 13) sc_levels_behind.nd rfl (Or.inl rfl))) (fun _ _ _ _ _ => pts_nil) (fun _ _ _ _ _ => (pe_call (ok_faded T) (hr.mono (by decide)) (by rfl) T.g_faded T.F_faded.kp T.b_faded .nil pass0 (pa_cons (pv 13) (pa_cons (pv 4) pa_nil)))))
      (pss_cons (ps_set (i := 9) sc_levels_behind.nd rfl (Or.inl rfl) pe_dnewK)
      (pss_cons (ps_for PassesOwn.never rfl (pi_list (pe_callB ((cr_sortedSet rfl)) (by rfl) T.z_sorted (by decide +kernel) (pa_cons (pe_callTy (My.cr_setL rfl) (by rfl) T.z_set (by decide +kernel) (pa_cons (pv 1) pa_nil)) pa_nil))) (pg_name (i := 10) sc_levels_behind.nd rfl (Or.inr rfl)) (pss_one (ps_dput hu (pv 9) (pv 10) (pe_lc (own := [("level", 13)]) rfl sc_levels_behind.nd (pi_list (pv 8)) (blkOk_by (own := [("level", 13)]) (N := ["coder", "changes", "low", "high", "fade", "total", "least", "most", "left", "led", "change", "indexes", "behind", "level", "index"]) (sc := defScope s_levels_behind) (by decide +kernel)) (fun _ _ _ _ _ => (pg_name (i := 13) sc_levels_behind.nd rfl (Or.inl rfl))) (fun _ _ _ _ _ => pts_nil) (fun _ _ _ _ _ => (pe_op op_sub (pe_call (ok_limited T) (hr.mono (by decide)) (by rfl) T.g_limited T.F_limited.kp T.b_limited .nil pass0 (pa_cons (pe_op op_add (pv 13) (pv 10)) (pa_cons (pv 2) (pa_cons (pv 3) pa_nil)))) (pv 2)))) rfl)))
      (pss_cons (ps_set (i := 11) sc_levels_behind.nd rfl (Or.inl rfl) (pe_listRg rfl (by rfl) T.z_list (prg_1 (by rfl) T.z_range (pe_callB call_len_seq (by rfl) T.z_len (by decide +kernel) (pa_cons (pv 8) pa_nil)))))
      (pss_cons (ps_for PassesOwn.never rfl (pi_list (pv 1)) (pg_name (i := 10) sc_levels_behind.nd rfl (Or.inr rfl)) (pss_cons (ps_set (i := 12) sc_levels_behind.nd rfl (Or.inr rfl) (pe_dget hu (pv 9) (pv 10) (fun _ _ => rfl)))
      (pss_one (ps_setLc (i := 11) (own := [("index", 14)]) rfl sc_levels_behind.nd rfl rfl (sw_true rfl rfl rfl (by decide +kernel)) (pi_list (pv 11)) (blkOk_by (own := [("index", 14)]) (N := ["coder", "changes", "low", "high", "fade", "total", "least", "most", "left", "led", "change", "indexes", "behind", "level", "index"]) (sc := defScope s_levels_behind) (by decide +kernel)) (fun _ _ _ _ _ => (pg_name (i := 14) sc_levels_behind.nd rfl (Or.inl rfl))) (fun _ _ _ _ _ => pts_nil) (fun _ _ _ _ _ => (pe_ix (My.ix_listK (K := K)) (pv 12) (pv 14) (fun _ _ => rfl)))))))
      (pss_one (ps_ret (pe_lc (own := [("index", 14)]) rfl sc_levels_behind.nd (pi_list (pv 11)) (blkOk_by (own := [("index", 14)]) (N := ["coder", "changes", "low", "high", "fade", "total", "least", "most", "left", "led", "change", "indexes", "behind", "level", "index"]) (sc := defScope s_levels_behind) (by decide +kernel)) (fun _ _ _ _ _ => (pg_name (i := 14) sc_levels_behind.nd rfl (Or.inl rfl))) (fun _ _ _ _ _ => pts_nil) (fun _ _ _ _ _ => (pe_op op_add (pv 2) (pv 14)))))))))))))
, ?_⟩
    have hc' := hc
    obtain ⟨a, s, m, ms, rfl, ha, hs, hm, hmd⟩ := cod_at hc
    have l1 := O.l1
    have l2 := O.l2
    have h1 := O.h1
    have h2 := O.h2
    have wl := wd_le O
    refine ⟨_, rfl, a, _, 0, _, rfl, rfl, ha, atI_nat (j := 0) rfl, _, rfl, a, _, 1, _, rfl, rfl, ha, atI_nat (j := 1) rfl, _, rfl, a, _, 4, _, rfl, rfl, ha, atI_nat (j := 4) rfl, by show 3 ≤ sizeLine; decide, fun t ht => ?_⟩
    have s1 := same_new (o := .tup [.int C.low, .int C.high, .int C.fade]) ht
    refine ⟨t, _, rfl, upd_tup, rfl, _, _, rfl, _, _, rfl, _, _, rfl, rfl, ?_⟩
    generalize upd H t (.tup [.int C.low, .int C.high, .int C.fade]) = H1 at s1
    refine ⟨_, rfl, rfl, _, rfl, ?_⟩
    refine ite2 (fun e => ?_) (fun e => ?_)
    · have f0 : C.fade = 0 := V.int.inj (of_decide_eq_true e)
      refine ⟨_, rfl, _, rfl, .ref a, l, C, cs, rfl, O, dp_same s1 _ _ hc', s1.seq hL, fun t2 H2 s2 ht2 => ?_⟩
      refine ⟨t2, _, rfl, ht2, rfl, _, _, rfl, _, _, rfl, _, _, rfl, rfl, ?_⟩
      have s12 := s1.trans s2
      refine ⟨_, rfl, _, rfl, _, _, rfl, rfl, _, _, rfl, ⟨by omega, by omega, by omega, by omega⟩, fun D hD => ?_⟩
      have hD0 := s12.free hD
      refine lc_range (lo := C.low) (n := (C.high + 1 - C.low).toNat) (fun i H' => H' D = some (.lst ((upto (fun i => C.lv (C.low + (i : Int)) cs) i).map V.int)) ∧ Same H2 H') ⟨upd_same, same_new hD⟩ ?_ ?_
      · rintro i H3 hi ⟨hD3, s3⟩
        refine ⟨rfl, yes_turn ?_⟩
        refine ⟨_, rfl, _, rfl, _, _, rfl, rfl, _, rfl, _, rfl, _, _, _, rfl, lv_lim_le O cs, ?_⟩
        rw [← lv_limits O f0 _ (wd_in hi) cs]
        refine ⟨_, hD3, ?_, ?_, same_put s3 hD⟩
        · rw [List.length_map, upto_len]
          exact Nat.lt_of_lt_of_le (Nat.lt_of_lt_of_le hi wl) (by decide)
        · rw [upd_same, upto_succ, List.map_append]
          rfl
      · rintro H3 ⟨hD3, s3⟩
        exact q D H3 (s12.trans s3) hD0 hD3
    · -- left
      refine ⟨_, rfl, _, rfl, _, _, rfl, rfl, _, _, rfl, ⟨by omega, by omega, by omega, by omega⟩, fun L hLn => ?_⟩
      refine lc_range (lo := C.low) (n := (C.high + 1 - C.low).toNat) (fun i H' => H' L = some (.lst ((upto (fun i => fdd (C.low + (i : Int)) C.fade) i).map V.int)) ∧ Same H1 H') ⟨upd_same, same_new hLn⟩ ?_ ?_
      · rintro i H3 hi ⟨hD3, s3⟩
        refine ⟨rfl, yes_turn ?_⟩
        refine ⟨_, rfl, _, rfl, _, C.fade, rfl, O.f1, ?_⟩
        refine ⟨_, hD3, ?_, ?_, same_put s3 hLn⟩
        · rw [List.length_map, upto_len]
          exact Nat.lt_of_lt_of_le (Nat.lt_of_lt_of_le hi wl) (by decide)
        · rw [upd_same, upto_succ, List.map_append]
          rfl
      rintro H2 ⟨hL2, s2⟩
      have s12 := s1.trans s2
      change H2 L = some (.lst ((upto (fun i => fdd (C.low + (i : Int)) C.fade) C.wd).map V.int)) at hL2
      -- led
      intro d hd
      have s3 := same_new (o := .dK []) hd
      have hL3 := s3 _ _ hL2
      have hd3 : (upd H2 d (.dK [])) d = some (.dK []) := upd_same
      have s13 := s12.trans s3
      have hd0 := s12.free hd
      generalize upd H2 d (.dK []) = H3 at s3 hL3 hd3 s13
      clear s3 hL2 s2 s12
      refine ⟨_, rfl, l, cs, rfl, s13.seq hL, by omega, fun p cn hp hcn => ?_⟩
      refine ⟨p, _, cn, rfl, upd_same, by omega, fun ns g pw mem len hg => ?_⟩
      generalize hH5 : upd _ g _ = H5
      have hg5 : H5 g = some (.lst (ns.map V.int)) := by
        rw [← hH5]
        exact upd_same
      have s35 : Same H3 H5 := by
        rw [← hH5]
        exact (same_new hp).trans (same_new hg)
      have hL5 := s35 _ _ hL3
      have hd5 := s35 _ _ hd3
      have s15 := s13.trans s35
      clear hH5 s35 hL3 hd3 s13
      refine ⟨g, rfl, ⟨_, SqL.of hg5⟩, ?_⟩
      refine for_list (K := K) (a := g) (xs := ns.map V.int) (fun i σ H' => ∃ kvs y10, σ = [some (.ref a), some (.ref l), some (.int C.low), some (.int C.high), some (.int C.fade), none, none, none, some (.ref L), some (.ref d), y10, none, none, none, none] ∧
          H' d = some (.dK kvs) ∧ kvs.length ≤ i ∧ H' L = some (.lst ((upto (fun i => fdd (C.low + (i : Int)) C.fade) C.wd).map V.int)) ∧ H' g = some (.lst (ns.map V.int)) ∧ Same H H' ∧
          (∀ j z, j < i → ns[j]? = some z → ∃ b, valV kvs (.inl z) = some (.ref b) ∧ b ≠ d ∧ H' b = some (.lst ((upto (fun i => C.lvc (C.low + (i : Int)) z - C.low) C.wd).map V.int))))
        ⟨[], none, rfl, hd5, Nat.le_refl _, hL5, hg5, s15, fun j z hj => absurd hj (Nat.not_lt_zero _)⟩ ?_ ?_ ?_
      · rintro i σ H' _ ⟨_, _, _, _, _, _, hg', _⟩
        exact SqL.of hg'
      · rintro i v σ H6 hi ⟨kvs, y10, rfl, hd6, hk6, hL6, hg6, s6, all6⟩
        obtain ⟨z, hz, rfl⟩ := int_at hi
        have hin : i < ns.length := (List.getElem?_eq_some_iff.mp hz).1
        refine ⟨_, rfl, L, rfl, ⟨_, SqL.of hL6⟩, fun D hD => ?_⟩
        refine lc_list (K := K) (a := L) (xs := (upto (fun i => fdd (C.low + (i : Int)) C.fade) C.wd).map V.int) (fun i H' => H' D = some (.lst ((upto (fun i => C.lvc (C.low + (i : Int)) z - C.low) i).map V.int)) ∧ Same H6 H') ⟨upd_same, same_new hD⟩ ?_ ?_ ?_
        · rintro i H' _ ⟨_, s7⟩
          exact SqL.of (s7 _ _ hL6)
        · rintro i v H7 hi ⟨hD7, s7⟩
          obtain ⟨x, hx, rfl⟩ := int_at hi
          obtain ⟨hiw, rfl⟩ := upto_get hx
          refine ⟨rfl, yes_turn ?_⟩
          refine ⟨_, rfl, _, rfl, _, _, rfl, rfl, _, rfl, _, rfl, _, _, _, rfl, by omega, _, rfl, _, _, rfl, rfl, _, hD7, ?_, ?_, same_put s7 hD⟩
          · rw [List.length_map, upto_len]
            exact Nat.lt_of_lt_of_le (Nat.lt_of_lt_of_le hiw wl) (by decide)
          · rw [upd_same, upto_succ, List.map_append]
            rfl
        · rintro H7 ⟨hD7, s7⟩
          rw [List.length_map, upto_len] at hD7
          have hd7 := s7 _ _ hd6
          have nDd : D ≠ d := (ne_of_none hd6 hD).symm
          have nLd : L ≠ d := ne_of hL6 hd6 nofun
          have ngd : g ≠ d := ne_of hg6 hd6 nofun
          refine ⟨_, rfl, _, rfl, d, _, rfl, DPut.k (k := .inl z) hd7 (Nat.lt_of_le_of_lt (m := 70) (by omega) (by decide)), ?_⟩
          refine ⟨_, _, rfl, upd_same, ?_, (upd_ne nLd).trans (s7 _ _ hL6), (upd_ne ngd).trans (s7 _ _ hg6), same_put (s6.trans s7) hd0, fun j z' hj hz' => ?_⟩
          · have := length_putK kvs (.inl z) (V.ref D)
            omega
          · rw [valV_put]
            by_cases hzz : z' = z
            · subst hzz
              rw [if_pos rfl]
              exact ⟨D, rfl, nDd, (upd_ne nDd).trans hD7⟩
            · have hjn : j ≠ i := fun e => hzz (by rw [e, hz] at hz'; exact (Option.some.inj hz').symm)
              rw [if_neg (fun e => hzz (Sum.inl.inj e))]
              obtain ⟨b, hb1, hb2, hb3⟩ := all6 j z' (by omega) hz'
              exact ⟨b, hb1, hb2, (upd_ne hb2).trans (s7 _ _ hb3)⟩
      rintro σ H6 ⟨kvs, y10, rfl, hd6, hk6, hL6, hg6, s6, all6⟩
      rw [List.length_map] at all6
      have every : ∀ z ∈ cs, ∃ b, valV kvs (.inl z) = some (.ref b) ∧ H6 b = some (.lst ((upto (fun i => C.lvc (C.low + (i : Int)) z - C.low) C.wd).map V.int)) := fun z hz => by
        have hzn : z ∈ ns := (mem z).mpr (decide_eq_true hz)
        obtain ⟨j, hj, e⟩ := List.getElem_of_mem hzn
        obtain ⟨b, hb1, _, hb3⟩ := all6 j z hj (by rw [List.getElem?_eq_getElem hj, e])
        exact ⟨b, hb1, hb3⟩
      clear all6 hg6 hk6 hL5 hd5 hg5 s15
      -- indexes
      refine ⟨_, rfl, L, _, rfl, .inl (SqL.of hL6), _, rfl, RgOk.of_le (by decide) (by rw [List.length_map, upto_len]; omega) (by decide) (by omega), fun ix hix => ?_⟩
      have s7 := same_new (o := .lst (rgV 0 ((((upto (fun i => fdd (C.low + (i : Int)) C.fade) C.wd).map V.int).length : Nat) : Int))) hix
      have hix7 : (upd H6 ix (.lst (rgV 0 ((((upto (fun i => fdd (C.low + (i : Int)) C.fade) C.wd).map V.int).length : Nat) : Int)))) ix = some (.lst ((upto (fun i => C.lv (C.low + (i : Int)) (cs.take 0) - C.low) C.wd).map V.int)) := by
        rw [upd_same, List.length_map, upto_len]
        congr 2
        unfold rgV upto
        rw [List.map_map, show (((C.wd : Nat) : Int) - 0).toNat = C.wd by omega]
        refine List.map_congr_left fun i _ => ?_
        show V.int (0 + (i : Int)) = V.int (C.low + (i : Int) - C.low)
        congr 1
        omega
      generalize upd H6 ix (.lst (rgV 0 ((((upto (fun i => fdd (C.low + (i : Int)) C.fade) C.wd).map V.int).length : Nat) : Int))) = H7 at s7 hix7
      have s17 := s6.trans s7
      refine ⟨_, rfl, l, rfl, ⟨_, s17.seq hL⟩, ?_⟩
      refine for_list (K := K) (a := l) (xs := cs.map V.int) (fun j σ H' => ∃ ix y10 y12, σ = [some (.ref a), some (.ref l), some (.int C.low), some (.int C.high), some (.int C.fade), none, none, none, some (.ref L), some (.ref d), y10, some (.ref ix), y12, none, none] ∧
          Same H7 H' ∧ H' ix = some (.lst ((upto (fun i => C.lv (C.low + (i : Int)) (cs.take j) - C.low) C.wd).map V.int))) ⟨ix, _, none, rfl, Same.refl H7, hix7⟩ ?_ ?_ ?_
      · rintro i σ H' _ ⟨_, _, _, _, s8, _⟩
        exact (s17.trans s8).seq hL
      · rintro j v σ H8 hj ⟨ix8, y10, y12, rfl, s8, hix8⟩
        obtain ⟨z, hz, rfl⟩ := int_at hj
        obtain ⟨b, hb1, hb2⟩ := every z (List.mem_of_getElem? hz)
        have hd8 := (s7.trans s8) _ _ hd6
        have hb8 := (s7.trans s8) _ _ hb2
        have hget : DGet H8 d (.int z) (some (.ref b)) := by
          have := DGet.k (k := .inl z) hd8
          rw [hb1] at this
          exact this
        refine ⟨_, rfl, _, rfl, d, .ref b, rfl, hget, ?_⟩
        refine ⟨_, rfl, ix8, rfl, ⟨_, SqL.of hix8⟩, fun D hD => ?_⟩
        refine lc_list (K := K) (a := ix8) (xs := (upto (fun i => C.lv (C.low + (i : Int)) (cs.take j) - C.low) C.wd).map V.int) (fun i H' => H' D = some (.lst ((upto (fun i => C.lv (C.low + (i : Int)) (cs.take (j + 1)) - C.low) i).map V.int)) ∧ Same H8 H') ⟨upd_same, same_new hD⟩ ?_ ?_ ?_
        · rintro i H' _ ⟨_, s9⟩
          exact SqL.of (s9 _ _ hix8)
        · rintro i v H9 hi ⟨hD9, s9⟩
          obtain ⟨x, hx, rfl⟩ := int_at hi
          obtain ⟨hiw, rfl⟩ := upto_get hx
          have hin := lv_in O (cs.take j) (wd_in hiw)
          obtain ⟨n, hn⟩ : ∃ n : Nat, C.lv (C.low + (i : Int)) (cs.take j) - C.low = (n : Int) := ⟨(C.lv (C.low + (i : Int)) (cs.take j) - C.low).toNat, by have := hin.1; omega⟩
          have hnw : n < C.wd := by
            have := hin.2
            unfold Cod.wd
            omega
          refine ⟨rfl, yes_turn ?_⟩
          refine ⟨_, rfl, _, rfl, b, _, _, _, rfl, rfl, SqL.of (s9 _ _ hb8), by rw [hn]; exact atI_nat (upto_at hnw), _, hD9, ?_, ?_, same_put s9 hD⟩
          · rw [List.length_map, upto_len]
            exact Nat.lt_of_lt_of_le (Nat.lt_of_lt_of_le hiw wl) (by decide)
          · rw [upd_same, upto_succ, List.map_append]
            have e : C.lvc (C.low + (n : Int)) z - C.low = C.lv (C.low + (i : Int)) (cs.take (j + 1)) - C.low := by
              rw [take_snoc hz, lv_snoc, ← hn]
              congr 2
              omega
            rw [e]
            rfl
        · rintro H9 ⟨hD9, s9⟩
          rw [List.length_map, upto_len] at hD9
          exact ⟨D, _, _, rfl, s8.trans s9, hD9⟩
      · rintro σ H8 ⟨ix8, y10, y12, rfl, s8, hix8⟩
        have ecs : cs.take (cs.map V.int).length = cs := by rw [List.length_map, List.take_length]
        rw [ecs] at hix8
        refine ⟨_, rfl, ix8, rfl, ⟨_, SqL.of hix8⟩, fun D hD => ?_⟩
        have hD0 := (s17.trans s8).free hD
        refine lc_list (K := K) (a := ix8) (xs := (upto (fun i => C.lv (C.low + (i : Int)) cs - C.low) C.wd).map V.int) (fun i H' => H' D = some (.lst ((upto (fun i => C.lv (C.low + (i : Int)) cs) i).map V.int)) ∧ Same H8 H') ⟨upd_same, same_new hD⟩ ?_ ?_ ?_
        · rintro i H' _ ⟨_, s9⟩
          exact SqL.of (s9 _ _ hix8)
        · rintro i v H9 hi ⟨hD9, s9⟩
          obtain ⟨x, hx, rfl⟩ := int_at hi
          obtain ⟨hiw, rfl⟩ := upto_get hx
          refine ⟨rfl, yes_turn ?_⟩
          refine ⟨_, rfl, _, rfl, _, _, rfl, rfl, _, hD9, ?_, ?_, same_put s9 hD⟩
          · rw [List.length_map, upto_len]
            exact Nat.lt_of_lt_of_le (Nat.lt_of_lt_of_le hiw wl) (by decide)
          · rw [upd_same, upto_succ, List.map_append]
            have e : C.low + (C.lv (C.low + (i : Int)) cs - C.low) = C.lv (C.low + (i : Int)) cs := by omega
            show some (HO.lst (_ ++ [V.int (C.low + (C.lv (C.low + (i : Int)) cs - C.low))])) = _
            rw [e]
            rfl
        · rintro H9 ⟨hD9, s9⟩
          rw [List.length_map, upto_len] at hD9
          exact q D H9 ((s17.trans s8).trans s9) hD0 hD9
def sp_row_map (K : PySem.W.Frag) : Sp := fun vs H Q _ => ∃ (c r : V) (C : Cod) (row : List Nat) (p : Int), vs = [c, r, .int p] ∧ C.Ok ∧ Dp K H c C.dat ∧ Dp K H r (rowI row) ∧ C.Row row ∧ row.length ≤ 63 ∧ C.cnt ≤ 4096 ∧ C.pIn p ∧
  ∀ t u H', Same H H' → SqT K H' t [.ref u, .int (C.pl p row)] → SqT K H' u ((C.mapL (C.chs p row)).map V.int) → Q (.ref t) H'
theorem ok_row_map (T : Txt K mg) : FnOk P w K mg base CX0 9 T.f_row_map T.d_row_map ["coder", "row", "place"] (sp_row_map K) := by
  refine T.F_row_map.ok sc_row_map (fun vs H Q E h => ?_) (fun cdv A outer s H vs Q E hr h => ?_)
  · obtain ⟨c, r, C, row, p, rfl, _⟩ := h
    rfl
  · obtain ⟨c, r, C, row, p, rfl, O, hc, hrow, R, short, few, hp, q⟩ := h
    refine ⟨_,
(pss_cons (ps_expr (pe_call (ok_need_coder T) (hr.mono (by decide)) (by rfl) T.g_need_coder T.F_need_coder.kp T.b_need_coder .nil pass0 (pa_cons (pv 0) pa_nil)))
      (pss_cons (ps_expr (pe_call (ok_need_few_states T) (hr.mono (by decide)) (by rfl) T.g_need_few_states T.F_need_few_states.kp T.b_need_few_states .nil pass0 (pa_cons (pv 0) (pa_cons pe_int pa_nil))))
      (pss_cons (ps_expr (pe_call (ok_need_row T) (hr.mono (by decide)) (by rfl) T.g_need_row T.F_need_row.kp T.b_need_row .nil pass0 (pa_cons (pv 0) (pa_cons (pv 1) pa_nil))))
      (pss_cons (ps_expr (pe_call (ok_need_place T) (hr.mono (by decide)) (by rfl) T.g_need_place T.F_need_place.kp T.b_need_place .nil pass0 (pa_cons (pv 0) (pa_cons (pv 2) pa_nil))))
      (pss_cons (ps_asg (pe_call (ok_changes_along T) (hr.mono (by decide)) (by rfl) T.g_changes_along T.F_changes_along.kp T.b_changes_along .nil pass0 (pa_cons (pv 0) (pa_cons (pv 1) (pa_cons (pv 2) pa_nil)))) (pg_tup (by rfl) (pgs_cons (pg_name (i := 3) sc_row_map.nd rfl (Or.inl rfl)) (pgs_cons (pg_name (i := 4) sc_row_map.nd rfl (Or.inl rfl)) pgs_nil))))
      (pss_one (ps_ret (pe_tup (pa_cons (pe_callTy call_tuple_of (by rfl) T.z_tuple (by decide +kernel) (pa_cons (pe_call (ok_levels_behind T) (hr.mono (by decide)) (by rfl) T.g_levels_behind T.F_levels_behind.kp T.b_levels_behind .nil pass0 (pa_cons (pv 0) (pa_cons (pv 3) pa_nil))) pa_nil)) (pa_cons (pv 4) pa_nil))))))))))
, ?_⟩
    refine ⟨_, rfl, c, C.dat, rfl, hc, O.first, fun H1 s1 => ?_⟩
    refine ⟨_, rfl, c, C, 4096, rfl, O, dp_same s1 _ _ hc, few, fun H2 s2 => ?_⟩
    have s12 := s1.trans s2
    refine ⟨_, rfl, _, rfl, c, r, C, _, rfl, dp_same s12 _ _ hc, dp_same s12 _ _ hrow, R.ok, fun H3 s3 => ?_⟩
    have s13 := s12.trans s3
    refine ⟨_, rfl, _, rfl, c, C, p, rfl, dp_same s13 _ _ hc, hp, fun H4 s4 => ?_⟩
    have s14 := s13.trans s4
    refine ⟨_, rfl, _, rfl, _, rfl, c, r, C, row, p, rfl, O, dp_same s14 _ _ hc, dp_same s14 _ _ hrow, R, hp, fun t l H5 s5 hl0 hl ht => ?_⟩
    refine ⟨t, _, rfl, ht, rfl, _, _, rfl, _, _, rfl, rfl, ?_⟩
    have s15 := s14.trans s5
    refine ⟨_, rfl, _, rfl, c, l, C, _, rfl, O, dp_same s15 _ _ hc, SqL.of hl, by rw [chs_len]; exact short, fun b H6 s6 hb0 hb => ?_⟩
    refine ⟨b, _, rfl, .inl ⟨SqL.of hb, fun u hu => ?_⟩⟩
    have s7 := same_new (o := .tup ((C.mapL (C.chs p row)).map V.int)) hu
    refine ⟨_, rfl, by show 2 ≤ sizeLine; decide, fun t2 ht2 => ?_⟩
    have s8 := same_new (o := .tup [.ref u, .int (C.pl p row)]) ht2
    exact q t2 u _ ((s15.trans s6).trans (s7.trans s8)) upd_tup (.inl (.inl (s8 _ _ upd_same)))
end
end My

set_option pp.maxSteps 400
namespace My
open PySem PySem.Spec PyProof.Rows L2
theorem cat_rows {K : PySem.W.Frag} {H : Hp} {a b : Addr} {r q : List Nat} {Q : VK} (ha : SqT K H a (rowV r)) (hb : SqT K H b (rowV q)) (hl : r.length + q.length ≤ sizeLine)
    (k : ∀ v H', Same H H' → Dp K H' v (rowI (r ++ q)) → Q v H') : rCatA K (.ref a) (.ref b) H Q := by
  refine ⟨a, b, _, _, rfl, rfl, ha, hb, by unfold rowV; rw [List.length_map, List.length_map]; exact hl, fun e => ?_, fun _ e => ?_, fun _ _ p hp => ?_⟩
  · have e' : r = [] := List.map_eq_nil_iff.mp e
    refine k _ H (Same.refl H) ?_
    rw [e']
    exact dp_row hb
  · have e' : q = [] := List.map_eq_nil_iff.mp e
    refine k _ H (Same.refl H) ?_
    rw [e', List.append_nil]
    exact dp_row ha
  · refine k _ _ (same_new hp) (dp_row ?_)
    have e : rowV (r ++ q) = rowV r ++ rowV q := List.map_append
    rw [e]
    exact upd_tup
theorem Small.few {C : Cod} {w p c : Int} (h : Small C w p c) (hw : 0 ≤ w) (hp : 0 ≤ p) : C.cnt ≤ (2 * w + 1) * p := by
  obtain ⟨⟨a1, a2⟩, ⟨b1, b2⟩, ⟨c1, c2⟩, _⟩ := h
  exact Int.mul_le_mul (by omega) c2 (by omega) (by omega)
theorem St_sh {C : Cod} (O : C.Ok) {s : Int × Int} (h : C.St s) : Sh 1 4000 (pairI s) := by
  obtain ⟨a, b, c, d⟩ := h
  have := O.l1
  have := O.h2
  have := O.s2
  exact sh_pair (by omega) (by omega)
theorem lev_w {C : Cod} (O : C.Ok) {s : Int × Int} (h : C.St s) : s.1.natAbs < 2 ^ 64 := by
  obtain ⟨a, b, c, d⟩ := h
  have := O.l1
  have := O.h2
  omega
theorem chs_app {C : Cod} : ∀ (r : List Nat) (p : Int) (q : List Nat), C.chs p (r ++ q) = C.chs p r ++ C.chs (C.pl p r) q
  | [], _, _ => rfl
  | k :: r, p, q => congrArg (C.chg k p.toNat :: ·) (chs_app r (C.plc p k) q)
theorem pl_app {C : Cod} : ∀ (r : List Nat) (p : Int) (q : List Nat), C.pl p (r ++ q) = C.pl (C.pl p r) q
  | [], _, _ => rfl
  | k :: r, p, q => pl_app r (C.plc p k) q
theorem lv_app {C : Cod} : ∀ (a : List Int) (l : Int) (b : List Int), C.lv l (a ++ b) = C.lv (C.lv l a) b
  | [], _, _ => rfl
  | c :: a, l, b => lv_app a (C.lvc l c) b
def powR (row : List Nat) (n : Nat) : List Nat := (List.replicate n row).flatten
theorem powR_succ (row : List Nat) (n : Nat) : powR row (n + 1) = powR row n ++ row := by
  unfold powR
  rw [List.replicate_succ', List.flatten_append]
  simp
theorem powR_len (row : List Nat) : ∀ n, (powR row n).length = n * row.length
  | 0 => by simp [powR]
  | n + 1 => by rw [powR_succ, List.length_append, powR_len row n, Nat.succ_mul]
theorem powR_mem {row : List Nat} {k : Nat} : ∀ {n}, k ∈ powR row n → k ∈ row
  | 0, h => by simp [powR] at h
  | n + 1, h => by
    rw [powR_succ] at h
    rcases List.mem_append.mp h with h | h
    · exact powR_mem h
    · exact h
theorem powR_V (row : List Nat) (n : Nat) : (List.replicate n (rowV row)).flatten = rowV (powR row n) := by
  unfold powR rowV
  rw [List.map_flatten, List.map_replicate]
theorem rep_pow {C : Cod} {row : List Nat} {s : Int × Int} : ∀ n, C.rep row s n = C.run s (powR row n)
  | 0 => rfl
  | n + 1 => by
    show C.run (C.rep row s n) row = _
    rw [rep_pow n, powR_succ, run_app]
theorem mapL_join {C : Cod} (cs ds : List Int) {i : Nat} : C.lv (C.low + (C.lv (C.low + (i : Int)) cs - C.low)) ds = C.lv (C.low + (i : Int)) (cs ++ ds) := by
  rw [lv_app]
  congr 1
  omega
def mapD (C : Cod) (cs : List Int) (p : Int) : PyData := .tuple [.tuple ((C.mapL cs).map .int), .int p]
theorem mapL_len (C : Cod) (cs : List Int) : (C.mapL cs).length = C.wd := upto_len _ _
theorem map_sh {C : Cod} (O : C.Ok) (hw : C.wd ≤ 41) (cs : List Int) {p : Int} (hp : C.pIn p) : Sh 2 200000 (mapD C cs p) := by
  have l1 := O.l1
  have h2 := O.h2
  have s2 := O.s2
  have h1 : Sh 1 80000 (.tuple ((C.mapL cs).map .int)) := (sh_ints (ns := C.mapL cs) fun z hz => by
    obtain ⟨i, hi, e⟩ := List.getElem_of_mem hz
    obtain ⟨hiw, rfl⟩ := upto_get (f := fun i => C.lv (C.low + (i : Int)) cs) (n := C.wd) (List.getElem?_eq_getElem hi ▸ congrArg some e : (upto _ _)[i]? = some z)
    have hin := lv_in O cs (wd_in hiw)
    have a1 := hin.1
    have a2 := hin.2
    omega).mono (Nat.le_refl _) (by rw [mapL_len]; omega)
  exact (sh_tup (k := 1) (n := 80000) (ds := [.tuple ((C.mapL cs).map .int), .int p]) fun d hd => by
    rcases List.mem_cons.mp hd with e | e
    · rw [e]
      exact h1
    · rw [List.mem_singleton.mp e]
      exact (sh_int (by have := hp.1; have := hp.2; omega)).mono (by decide) (by decide)).mono (Nat.le_refl _) (by simp)
theorem upto_same {f : Nat → Int} {w : Nat} (hm : ∀ i j, i ≤ j → f i ≤ f j) : ((upto f (w + 1)).filter fun x => decide (x ≠ f 0)).isEmpty = decide (f 0 = f w) := by
  by_cases h : f 0 = f w
  · rw [decide_eq_true h, List.isEmpty_iff, List.filter_eq_nil_iff]
    intro x hx
    obtain ⟨i, hi, e⟩ := List.getElem_of_mem hx
    obtain ⟨hiw, rfl⟩ := upto_get (f := f) (n := w + 1) (List.getElem?_eq_getElem hi ▸ congrArg some e : (upto f (w + 1))[i]? = some x)
    have := hm 0 i (Nat.zero_le _)
    have := hm i w (by omega)
    have e : f i = f 0 := by omega
    simp [e]
  · rw [decide_eq_false h]
    have hmem : f w ∈ (upto f (w + 1)).filter fun x => decide (x ≠ f 0) := by
      refine List.mem_filter.mpr ⟨?_, decide_eq_true (fun e => h e.symm)⟩
      rw [upto_succ]
      exact List.mem_append_right _ List.mem_cons_self
    cases hl : (upto f (w + 1)).filter fun x => decide (x ≠ f 0) with
    | nil => rw [hl] at hmem; cases hmem
    | cons _ _ => rfl
theorem neB {a b : Bool} (h : a = b) : (!decide (V.bl a = V.bl b)) = false := by
  rw [h, decide_eq_true rfl]
  rfl
section
variable {P : Program} {w : World} {K : PySem.W.Frag} {mg : Str → Option Value} {base : Heap}
def sp_law : Sp := fun vs H Q _ => ∃ (a : Addr) (ns : List Int), vs = [.ref a] ∧ SqL K H a (ns.map V.int) ∧ ns.length ≤ 63 ∧ ∀ H', Q (.bl true) H'
set_option maxHeartbeats 8000000 in
theorem ok_law (T : Txt K mg) : FnG P w K mg base 14 T.f_law T.d_law ["script"] (sp_law (K := K)) := by
  refine okG T.F_law sc_law (fun vs H Q E h => ?_) (fun cdv A outer s H vs Q E hgd hr h => ?_)
  · obtain ⟨a, ns, rfl, _⟩ := h
    rfl
  · obtain ⟨a, ns, rfl, hS, hl, q⟩ := h
    refine ⟨_,
(pss_cons (ps_set (i := 1) sc_law.nd rfl (Or.inl rfl) (pe_call (ok_law_begun T) (hr.mono (by decide)) (by rfl) T.g__law_begun T.F__law_begun.kp T.b__law_begun .nil pass0 (pa_cons (pv 0) pa_nil)))
      (pss_cons (ps_for PassesOwn.never rfl (pi_range1 (by rfl) T.z_range (pa_cons (pe_op op_add pe_int (pe_callB (call_min2 rfl) (by rfl) T.z_min (by decide +kernel) (pa_cons (pe_callB call_len_seq (by rfl) T.z_len (by decide +kernel) (pa_cons (pv 0) pa_nil)) (pa_cons pe_int pa_nil)))) pa_nil)) (pg_name (i := 2) sc_law.nd rfl (Or.inl rfl)) (pss_cons (ps_set (i := 3) sc_law.nd rfl (Or.inr rfl) (pe_call (ok_law_coder T) (hr.mono (by decide)) (by rfl) T.g__law_coder T.F__law_coder.kp T.b__law_coder .nil pass0 (pa_cons (pv 1) (pa_cons pe_int (pa_cons pe_int (pa_cons pe_int pa_nil))))))
      (pss_cons (ps_par3 (i := 4) (j := 5) (l := 6) (by rfl) sc_law.nd rfl rfl rfl (by decide) (by decide) (by decide) rfl rfl rfl (pa_cons (pe_call (ok_law_row T) (hr.mono (by decide)) (by rfl) T.g__law_row T.F__law_row.kp T.b__law_row .nil pass0 (pa_cons (pv 1) (pa_cons (pv 3) (pa_cons pe_int pa_nil)))) (pa_cons (pe_call (ok_law_row T) (hr.mono (by decide)) (by rfl) T.g__law_row T.F__law_row.kp T.b__law_row .nil pass0 (pa_cons (pv 1) (pa_cons (pv 3) (pa_cons pe_int pa_nil)))) (pa_cons (pe_call (ok_law_next T) (hr.mono (by decide)) (by rfl) T.g__law_next T.F__law_next.kp T.b__law_next .nil pass0 (pa_cons (pv 1) (pa_cons pe_int pa_nil))) pa_nil))) (by rfl))
      (pss_one (ps_for PassesOwn.never rfl (pi_range1 (by rfl) T.z_range (pa_cons (pe_callB call_len_seq (by rfl) T.z_len (by decide +kernel) (pa_cons (pe_ix ix_tup (pv 3) pe_int (fun _ _ => rfl)) pa_nil)) pa_nil)) (pg_name (i := 7) sc_law.nd rfl (Or.inl rfl)) (pss_cons (ps_asg (pe_call (ok_row_map T) (hr.mono (by decide)) (by rfl) T.g_row_map T.F_row_map.kp T.b_row_map .nil pass0 (pa_cons (pv 3) (pa_cons (pv 4) (pa_cons (pv 7) pa_nil)))) (pg_tup (by rfl) (pgs_cons (pg_name (i := 8) sc_law.nd rfl (Or.inl rfl)) (pgs_cons (pg_name (i := 9) sc_law.nd rfl (Or.inl rfl)) pgs_nil))))
      (pss_cons (ps_asg (pe_call (ok_row_map T) (hr.mono (by decide)) (by rfl) T.g_row_map T.F_row_map.kp T.b_row_map .nil pass0 (pa_cons (pv 3) (pa_cons (pv 5) (pa_cons (pv 9) pa_nil)))) (pg_tup (by rfl) (pgs_cons (pg_name (i := 10) sc_law.nd rfl (Or.inr rfl)) (pgs_cons (pg_name (i := 11) sc_law.nd rfl (Or.inl rfl)) pgs_nil))))
      (pss_cons (ps_set (i := 13) sc_law.nd rfl (Or.inl rfl) (pe_tup (pa_cons (pe_callTy call_tuple_of (by rfl) T.z_tuple (by decide +kernel) (pa_cons (pe_lc (own := [("level", 12)]) rfl sc_law.nd (pi_tup (pv 8)) (blkOk_by (own := [("level", 12)]) (N := ["script", "m", "turn", "coder", "one", "two", "times", "place", "first", "middle", "second", "last", "level", "due", "found", "behind", "there"]) (sc := defScope s_law) (by decide +kernel)) (fun _ _ _ _ _ => (pg_name (i := 12) sc_law.nd rfl (Or.inl rfl))) (fun _ _ _ _ _ => pts_nil) (fun _ _ _ _ _ => (pe_ix (My.ix_tupK (K := K)) (pv 10) (pe_op op_sub (pv 12) (pe_ix (My.ix_tupK (K := K)) (pv 3) pe_int (fun _ _ => rfl))) (fun _ _ => rfl)))) pa_nil)) (pa_cons (pv 11) pa_nil))))
      (pss_cons (ps_if (pt_cmpR op_ne (pe_callB ((call_repr hgd hr.units)) (by rfl) T.z_repr (by decide +kernel) (pa_cons (pe_call (ok_row_map T) (hr.mono (by decide)) (by rfl) T.g_row_map T.F_row_map.kp T.b_row_map .nil pass0 (pa_cons (pv 3) (pa_cons (pe_op op_catA (pv 4) (pv 5)) (pa_cons (pv 7) pa_nil)))) pa_nil)) (pe_callB ((call_repr hgd hr.units)) (by rfl) T.z_repr (by decide +kernel) (pa_cons (pv 13) pa_nil)) (nomark _)) (pss_one (ps_ret pe_bl)) pss_nil)
      (pss_cons (ps_asg (pe_call (ok_row_map T) (hr.mono (by decide)) (by rfl) T.g_row_map T.F_row_map.kp T.b_row_map .nil pass0 (pa_cons (pv 3) (pa_cons (pe_op My.op_repA (pv 4) (pv 6)) (pa_cons (pv 7) pa_nil)))) (pg_tup (by rfl) (pgs_cons (pg_name (i := 14) sc_law.nd rfl (Or.inr rfl)) (pgs_cons (pg_name (i := 15) sc_law.nd rfl (Or.inl rfl)) pgs_nil))))
      (pss_cons (ps_set (i := 12) sc_law.nd rfl (Or.inl rfl) (pe_call (ok_law_next T) (hr.mono (by decide)) (by rfl) T.g__law_next T.F__law_next.kp T.b__law_next .nil pass0 (pa_cons (pv 1) (pa_cons (pe_op op_add (pe_op op_sub (pe_ix ix_tup (pv 3) pe_int (fun _ _ => rfl)) (pe_ix ix_tup (pv 3) pe_int (fun _ _ => rfl))) pe_int) pa_nil))))
      (pss_cons (ps_set (i := 16) sc_law.nd rfl (Or.inl rfl) (pe_callN (ok_last_of T) (hr.mono (by decide)) (by rfl) T.g_last_of T.kp_last_of T.k_last_of pass0 (pa_cons (pv 3) (pa_cons (pv 4) (pa_cons (pv 6) pa_nil))) (pk_cons (pe_tup (pa_cons (pe_op op_add (pe_ix ix_tup (pv 3) pe_int (fun _ _ => rfl)) (pv 12)) (pa_cons (pv 7) pa_nil))) pk_nil)))
      (pss_cons (ps_if (pt_cmpR op_ne (pe_callB ((call_repr hgd hr.units)) (by rfl) T.z_repr (by decide +kernel) (pa_cons (pe_tup (pa_cons (pe_ix ix_tup (pv 14) (pv 12) (fun _ _ => rfl)) (pa_cons (pv 15) pa_nil))) pa_nil)) (pe_callB ((call_repr hgd hr.units)) (by rfl) T.z_repr (by decide +kernel) (pa_cons (pv 16) pa_nil)) (nomark _)) (pss_one (ps_ret pe_bl)) pss_nil)
      (pss_one (ps_if (pt_cmpR op_ne (pe_cmpR op_eq (pe_ix ix_tup (pv 14) pe_int (fun _ _ => rfl)) (pe_ix ix_tup (pv 14) (pe_un un_neg pe_int) (fun _ _ => rfl)) (nomark _)) (pe_cmpR (op_eqD hr.units) (pe_lc (own := [("one", 4)]) rfl sc_law.nd (pi_tup (pv 14)) (blkOk_by (own := [("one", 4)]) (N := ["script", "m", "turn", "coder", "one", "two", "times", "place", "first", "middle", "second", "last", "level", "due", "found", "behind", "there"]) (sc := defScope s_law) (by decide +kernel)) (fun _ _ _ _ _ => (pg_name (i := 4) sc_law.nd rfl (Or.inl rfl))) (fun _ _ _ _ _ => pts_one (pt_cmpR op_ne (pv 4) (pe_ix (My.ix_tupK (K := K)) (pv 14) pe_int (fun _ _ => rfl)) (nomark _))) (fun _ _ _ _ _ => (pv 4))) (pe_lst pa_nil) (nomark _)) (nomark _)) (pss_one (ps_ret pe_bl)) pss_nil)))))))))))))))
      (pss_one (ps_ret pe_bl))))
, ?_⟩
    refine ⟨.ref a, rfl, a, ns, rfl, hS, hl, fun m c l H1 s1 hm hc hl0 D1 => ?_⟩
    have hS1 := s1.seq hS
    refine ⟨_, rfl, a, _, rfl, .inl hS1, ?_⟩
    refine ⟨_, 3, rfl, 1, _, rfl, rfl, _, rfl, ?_, ?_, ?_⟩
    · rw [List.length_map]; split <;> omega
    · rw [List.length_map]; split <;> omega
    have hn : (1 + if (3 : Int) < ((ns.map V.int).length : Int) then 3 else ((ns.map V.int).length : Int)).toNat ≤ 4 := by
      rw [List.length_map]
      split <;> omega
    refine for_range (lo := 0) (n := (1 + if (3 : Int) < ((ns.map V.int).length : Int) then 3 else ((ns.map V.int).length : Int)).toNat)
      (fun i σ H' => ∃ x2 x3 x4 x5 x6 x7 x8 x9 x10 x11 x12 x13 x14 x15 x16 l', σ = [some (.ref a), some (.ref m), x2, x3, x4, x5, x6, x7, x8, x9, x10, x11, x12, x13, x14, x15, x16] ∧ Dr H' m c l' (900000 - 200 * i))
      ⟨none, none, none, none, none, none, none, none, none, none, none, none, none, none, none, l, rfl, D1⟩ ?_ ?_
    · rintro i σ H2 hi ⟨x2, x3, x4, x5, x6, x7, x8, x9, x10, x11, x12, x13, x14, x15, x16, l2, rfl, D2⟩
      have hi5 : i < 4 := by omega
      have D2 : Dr H2 m c l2 (900000 - 200 * (i + 1) + 40 + 60) := D2.less (by omega)
      -- coder
      refine ⟨_, rfl, m, c, l2, _, 20, 3, 5, rfl, by decide, by decide, by decide, D2, fun cv C l3 H3 kp3 D3 sm hcv => ?_⟩
      have O : C.Ok := sm.ok (by decide) (by decide) (by decide)
      have few : C.cnt ≤ 4096 := Int.le_trans (sm.few (by decide) (by decide)) (by decide)
      have hw : C.wd ≤ 41 := by
        have := sm.lo.1
        have := sm.hi.2
        unfold Cod.wd
        omega
      have hw1 : 0 < C.wd := by
        have := O.l2
        have := O.h1
        unfold Cod.wd
        omega
      -- one, two, times
      refine ⟨_, rfl, _, rfl, m, c, l3, 900000 - 200 * (i + 1) + 27, cv, C, 12, rfl, by decide, O, hcv, D3, fun v1 one l4 H4 kp4 D4 R1 hlen1 hv1 => ?_⟩
      have k4 := keep_draw kp4 D3
      have hcv4 := dp_keep k4 _ _ (noL_cod C) hcv
      refine ⟨_, rfl, _, rfl, m, c, l4, 900000 - 200 * (i + 1) + 14, cv, C, 12, rfl, by decide, O, hcv4, D4, fun v2 two l5 H5 kp5 D5 R2 hlen2 hv2 => ?_⟩
      have k5 := keep_draw kp5 D4
      have hcv5 := dp_keep k5 _ _ (noL_cod C) hcv4
      have hv15 := dp_keep k5 _ _ (noL_row one) hv1
      refine ⟨_, rfl, m, c, l5, 900000 - 200 * (i + 1) + 13, 5, rfl, by decide, by decide, D5, fun tm l6 H6 t0 t1 kp6 D6 => ⟨_, _, _, rfl, ?_⟩⟩
      have k6 := keep_draw kp6 D5
      have hcv6 := dp_keep k6 _ _ (noL_cod C) hcv5
      have hv16 := dp_keep k6 _ _ (noL_row one) hv15
      have hv26 := dp_keep k6 _ _ (noL_row two) hv2
      obtain ⟨n, rfl⟩ : ∃ n : Nat, tm = (n : Int) := ⟨tm.toNat, by omega⟩
      obtain ⟨ca, cs, cm, cms, ec, hca, hcs, hcm, hcmd⟩ := cod_at hcv6
      subst ec
      obtain ⟨r1, rfl, hr1⟩ := row_at hv16
      obtain ⟨r2, rfl, hr2⟩ := row_at hv26
      have hsl : (C.steps.map V.int).length = C.steps.length := List.length_map ..
      have s2' := O.s2
      -- places
      refine ⟨_, rfl, ca, _, 2, _, rfl, rfl, hca, atI_nat (j := 2) rfl, cs, _, rfl, .inr hcs, _, rfl, by rw [hsl]; omega, by rw [hsl]; omega, ?_⟩
      refine for_range (lo := 0) (n := (((C.steps.map V.int).length : Nat) : Int).toNat)
        (fun j σ H' => ∃ x2 x7 x8 x9 x10 x11 x12 x13 x14 x15 x16 l', σ = [some (.ref a), some (.ref m), x2, some (.ref ca), some (.ref r1), some (.ref r2), some (.int (n : Int)), x7, x8, x9, x10, x11, x12, x13, x14, x15, x16] ∧ Keep H6 H' ∧ Dr H' m c l' (900000 - 200 * (i + 1) + 13 - j))
        ⟨_, _, _, _, _, _, _, _, _, _, _, l6, rfl, Keep.refl H6, D6⟩ ?_ ?_
      · rintro j σ H7 hj ⟨y2, y7, y8, y9, y10, y11, y12, y13, y14, y15, y16, l7, rfl, kp7, D7⟩
        have hj' : j < C.steps.length := by rw [hsl] at hj; omega
        have sm3 := sm.st.2
        have D7 : Dr H7 m c l7 (900000 - 200 * (i + 1) + 13 - (j + 1) + 1) := D7.less (by omega)
        have hp : C.pIn (0 + (j : Int)) := ⟨by omega, by omega⟩
        generalize (0 : Int) + (j : Int) = p at hp
        have hcv7 := dp_keep kp7 _ _ (noL_cod C) hcv6
        have hv17 := dp_keep kp7 _ _ (noL_row one) hv16
        have hv27 := dp_keep kp7 _ _ (noL_row two) hv26
        -- first, middle
        refine ⟨_, rfl, _, rfl, _, rfl, .ref ca, .ref r1, C, one, p, rfl, O, hcv7, hv17, R1, by omega, few, hp, fun t8 u8 H8 s8 ht8 hu8 => ?_⟩
        refine ⟨t8, _, rfl, ht8, rfl, _, _, rfl, _, _, rfl, rfl, ?_⟩
        have hmid := pl_in O one hp
        -- second, last
        refine ⟨_, rfl, _, rfl, _, rfl, .ref ca, .ref r2, C, two, _, rfl, O, dp_same s8 _ _ hcv7, dp_same s8 _ _ hv27, R2, by omega, few, hmid, fun t9 u9 H9 s9 ht9 hu9 => ?_⟩
        refine ⟨t9, _, rfl, ht9, rfl, _, _, rfl, _, _, rfl, rfl, ?_⟩
        have s89 := s8.trans s9
        have hu89 := same_tup s9 hu8
        have hca9 := kp7.trans (keep_same s89) |>.tup hca
        -- due
        refine ⟨_, rfl, u8, rfl, ⟨_, hu89⟩, fun D hD => ?_⟩
        refine lc_tup (K := K) (a := u8) (xs := (C.mapL (C.chs p one)).map V.int) (fun x H' => H' D = some (.lst ((upto (fun x => C.lv (C.low + (x : Int)) (C.chs p (one ++ two))) x).map V.int)) ∧ Same H9 H') ⟨upd_same, same_new hD⟩ ?_ ?_ ?_
        · rintro x H' _ ⟨_, s10⟩
          exact same_tup s10 hu89
        · rintro x v H10 hx ⟨hD10, s10⟩
          obtain ⟨z, hz, rfl⟩ := int_at hx
          obtain ⟨hxw, rfl⟩ := upto_get hz
          have hin := lv_in O (C.chs p one) (wd_in hxw)
          obtain ⟨y, hy⟩ : ∃ y : Nat, C.lv (C.low + (x : Int)) (C.chs p one) - C.low = (y : Int) := ⟨(C.lv (C.low + (x : Int)) (C.chs p one) - C.low).toNat, by have := hin.1; omega⟩
          have hyw : y < C.wd := by
            have := hin.2
            unfold Cod.wd
            omega
          refine ⟨rfl, yes_turn ?_⟩
          refine ⟨_, rfl, _, rfl, _, rfl, ca, _, 0, _, rfl, rfl, same_tup s10 hca9, atI_nat (j := 0) rfl, _, _, rfl, rfl, u9, _, _, _, rfl, rfl, same_tup s10 hu9, by rw [hy]; exact atI_nat (upto_at hyw), _, hD10, ?_, ?_, same_put s10 hD⟩
          · rw [List.length_map, upto_len]
            exact small1000 (by omega)
          · rw [upd_same, upto_succ, List.map_append]
            have e : C.lv (C.low + (y : Int)) (C.chs (C.pl p one) two) = C.lv (C.low + (x : Int)) (C.chs p (one ++ two)) := by
              rw [chs_app, ← hy, mapL_join]
            rw [e]
            rfl
        rintro H10 ⟨hD10, s10⟩
        rw [List.length_map, mapL_len] at hD10
        refine ⟨D, _, rfl, .inl ⟨SqL.of hD10, fun tt htt => ?_⟩⟩
        have s11 := same_new (o := .tup ((upto (fun x => C.lv (C.low + (x : Int)) (C.chs p (one ++ two))) C.wd).map V.int)) htt
        refine ⟨_, rfl, by show 2 ≤ sizeLine; decide, fun td htd => ?_⟩
        have s12 := same_new (o := .tup [V.ref tt, V.int (C.pl (C.pl p one) two)]) htd
        have hdue : Dp K (upd (upd H10 tt (.tup ((upto (fun x => C.lv (C.low + (x : Int)) (C.chs p (one ++ two))) C.wd).map V.int))) td (.tup [V.ref tt, V.int (C.pl (C.pl p one) two)])) (.ref td) (mapD C (C.chs p (one ++ two)) (C.pl p (one ++ two))) := by
          unfold mapD
          rw [pl_app]
          exact .tup upd_tup (.cons (dp_tints (.inl (.inl (s12 _ _ upd_same)))) (.cons (.int _) .nil))
        have s13 := s89.trans (s10.trans (s11.trans s12))
        generalize upd (upd H10 tt (.tup ((upto (fun x => C.lv (C.low + (x : Int)) (C.chs p (one ++ two))) C.wd).map V.int))) td (.tup [V.ref tt, V.int (C.pl (C.pl p one) two)]) = H13 at hdue s13
        clear s11 s12 s10 hD10 hca9 hu89 s9 s89 hu9 ht9 hu8 ht8 s8
        have R12 : C.Row (one ++ two) := ⟨by simp; omega, fun k hk => by
          rcases List.mem_append.mp hk with h | h
          · exact R1.lt k h
          · exact R2.lt k h⟩
        have len12 : (one ++ two).length ≤ 63 := by simp; omega
        have pw : (powR one n).length ≤ 48 := by
          rw [powR_len]
          exact Nat.mul_le_mul (show n ≤ 4 by omega) hlen1
        have RP : C.Row (powR one n) := ⟨by omega, fun k hk => R1.lt k (powR_mem hk)⟩
        -- the first test
        have kp13 := kp7.trans (keep_same s13)
        refine ⟨_, rfl, _, rfl, _, rfl, ?_⟩
        refine cat_rows (r := one) (q := two) (kp13.tup hr1) (kp13.tup hr2) (sz_line (by omega)) fun rv H14 s14 hrv => ?_
        have s714 := s13.trans s14
        refine ⟨_, rfl, .ref ca, rv, C, one ++ two, p, rfl, O, dp_same s714 _ _ hcv7, hrv, R12, len12, few, hp, fun t15 u15 H15 s15 ht15 hu15 => ?_⟩
        have msh := map_sh O hw (C.chs p (one ++ two)) (pl_in O (one ++ two) hp)
        refine ⟨_, _, rfl, .tup ht15 (.cons (dp_tints hu15) (.cons (.int _) .nil)), msh.sh, msh.nd, Nat.le_trans msh.dp (by decide), sz_line (Nat.le_trans msh.le (by decide)), ?_⟩
        refine ⟨_, rfl, _, _, rfl, dp_same (s14.trans s15) _ _ hdue, msh.sh, msh.nd, Nat.le_trans msh.dp (by decide), sz_line (Nat.le_trans msh.le (by decide)), rfl, _, rfl, iteNS rfl ?_⟩
        have s715 := s714.trans s15
        clear hdue hu15 ht15 s714 s13 s14 s15 hrv kp13 msh
        -- found, behind
        have kp15 := kp7.trans (keep_same s715)
        refine ⟨_, rfl, _, rfl, _, rfl, r1, n, _, rfl, rfl, kp15.tup hr1, by omega, by unfold rowV; rw [List.length_map]; omega, fun b H16 s16 hb => ?_⟩
        rw [powR_V] at hb
        have s716 := s715.trans s16
        refine ⟨_, rfl, .ref ca, .ref b, C, powR one n, p, rfl, O, dp_same s716 _ _ hcv7, dp_row hb, RP, by omega, few, hp, fun t17 u17 H17 s17 ht17 hu17 => ?_⟩
        refine ⟨t17, _, rfl, ht17, rfl, _, _, rfl, _, _, rfl, rfl, ?_⟩
        have s717 := s716.trans s17
        have kp17 := kp7.trans (keep_same s717)
        have hca17 := kp17.tup hca
        have D17 := D7.same s717
        -- level
        have l1 := O.l1
        have l2' := O.l2
        have h1' := O.h1
        have h2' := O.h2
        refine ⟨_, rfl, _, rfl, ca, _, 1, _, rfl, rfl, hca17, atI_nat (j := 1) rfl, _, rfl, ca, _, 0, _, rfl, rfl, hca17, atI_nat (j := 0) rfl, _, _, rfl, rfl, _, _, rfl, rfl, m, c, l7, 900000 - 200 * (i + 1) + 13 - (j + 1), C.high - C.low + 1, rfl, by omega, by omega, D17, fun lv l18 H18 lv0 lv1 kpd D18 => ?_⟩
        have kd := keep_draw kpd D17
        have kp18 := kp17.trans kd
        have hca18 := kp18.tup hca
        have hcv18 := dp_keep kp18 _ _ (noL_cod C) hcv6
        have hv118 := dp_keep kp18 _ _ (noL_row one) hv16
        have hu18 := kd.tup hu17
        obtain ⟨x, rfl⟩ : ∃ x : Nat, lv = (x : Int) := ⟨lv.toNat, by omega⟩
        have hxw : x < C.wd := by
          unfold Cod.wd
          omega
        have hst : C.St (C.low + (x : Int), p) := ⟨by show C.low ≤ C.low + (x : Int); omega, by show C.low + (x : Int) ≤ C.high; omega, hp.1, by have := hp.2; show p < (C.steps.length : Int); omega⟩
        -- there
        refine ⟨_, rfl, _, rfl, _, rfl, _, rfl, ca, _, 0, _, rfl, rfl, hca18, atI_nat (j := 0) rfl, _, rfl, _, _, rfl, rfl, _, rfl, by show 2 ≤ sizeLine; decide, fun ts hts => ?_⟩
        have s19 := same_new (o := .tup [V.int (C.low + (x : Int)), V.int p]) hts
        refine ⟨rfl, rfl, .ref ca, .ref r1, .ref ts, C, one, (C.low + (x : Int), p), (n : Int), rfl, by omega, by omega, O, dp_same s19 _ _ hcv18, dp_same s19 _ _ hv118, R1, few, dp_mkpair upd_tup, hst, fun z H20 s20 hz => ?_⟩
        have s1820 := s19.trans s20
        have hu20 := same_tup s1820 hu18
        have erep : C.rep one (C.low + (x : Int), p) ((n : Nat) : Int).toNat = (C.lv (C.low + (x : Int)) (C.chs p (powR one n)), C.pl p (powR one n)) := by
          rw [show ((n : Nat) : Int).toNat = n by omega, rep_pow, run_eq]
        rw [erep] at hz
        have psh := St_sh O (run_St O (powR one n) hst)
        rw [run_eq] at psh
        -- the second test
        refine ⟨_, rfl, _, rfl, u17, _, (x : Int), _, rfl, rfl, hu20, atI_nat (upto_at hxw), _, rfl, by show 2 ≤ sizeLine; decide, fun t21 ht21 => ?_⟩
        have s21 := same_new (o := .tup [V.int (C.lv (C.low + (x : Int)) (C.chs p (powR one n))), V.int (C.pl p (powR one n))]) ht21
        refine ⟨_, _, rfl, dp_mkpair (s := (C.lv (C.low + (x : Int)) (C.chs p (powR one n)), C.pl p (powR one n))) upd_tup, psh.sh, psh.nd, Nat.le_trans psh.dp (by decide), sz_line (Nat.le_trans psh.le (by decide)), ?_⟩
        refine ⟨_, rfl, _, _, rfl, dp_same s21 _ _ hz, psh.sh, psh.nd, Nat.le_trans psh.dp (by decide), sz_line (Nat.le_trans psh.le (by decide)), rfl, _, rfl, iteNS rfl ?_⟩
        have s1821 := s1820.trans s21
        generalize upd H20 t21 _ = H21 at s1821
        clear s21 s1820 hu20 s20 s19 hz erep psh
        have hu21 := same_tup s1821 hu18
        -- the last test
        obtain ⟨wn, hwn⟩ : ∃ wn, C.wd = wn + 1 := ⟨C.wd - 1, by omega⟩
        have emap : (C.mapL (C.chs p (powR one n))).map V.int = (upto (fun x => C.lv (C.low + (x : Int)) (C.chs p (powR one n))) wn).map V.int ++ [V.int (C.lv (C.low + (wn : Int)) (C.chs p (powR one n)))] := by
          unfold Cod.mapL
          rw [hwn, upto_succ, List.map_append]
          rfl
        have hu21' := hu21
        rw [emap] at hu21'
        have at0 : ((C.mapL (C.chs p (powR one n))).map V.int)[0]? = some (V.int (C.lv (C.low + ((0 : Nat) : Int)) (C.chs p (powR one n)))) := upto_at hw1
        refine ⟨_, rfl, u17, _, ((0 : Nat) : Int), _, rfl, rfl, hu21, atI_nat at0, _, rfl, 1, rfl, u17, _, -1, _, rfl, rfl, hu21', atI_last _ _, rfl, ?_⟩
        refine ⟨_, rfl, u17, rfl, ⟨_, hu21⟩, fun D hD => ?_⟩
        refine lc_tup (K := K) (a := u17) (xs := (C.mapL (C.chs p (powR one n))).map V.int)
          (fun x H' => H' D = some (.lst ((((C.mapL (C.chs p (powR one n))).take x).filter fun y => decide (y ≠ C.lv (C.low + ((0 : Nat) : Int)) (C.chs p (powR one n)))).map V.int)) ∧ Same H21 H') ⟨upd_same, same_new hD⟩ ?_ ?_ ?_
        · rintro x H' _ ⟨_, s22⟩
          exact same_tup s22 hu21
        · rintro x v H22 hx ⟨hD22, s22⟩
          obtain ⟨z, hz, rfl⟩ := int_at hx
          refine ⟨rfl, ?_⟩
          refine ⟨_, rfl, _, rfl, u17, _, ((0 : Nat) : Int), _, rfl, rfl, same_tup s22 hu21, atI_nat at0, rfl, _, rfl, ?_⟩
          refine ite2 (fun e => ?_) (fun e => ?_)
          · have e := bne_t e
            refine ⟨_, rfl, _, hD22, ?_, ?_, same_put s22 hD⟩
            · rw [List.length_map]
              have h1 := List.length_filter_le (fun y => decide (y ≠ C.lv (C.low + ((0 : Nat) : Int)) (C.chs p (powR one n)))) ((C.mapL (C.chs p (powR one n))).take x)
              have h2 := List.length_take_le x (C.mapL (C.chs p (powR one n)))
              have h3 : x < C.wd := by
                have := (List.getElem?_eq_some_iff.mp hz).1
                rw [mapL_len] at this
                exact this
              exact small1000 (by omega)
            · rw [upd_same, take_snoc hz, List.filter_append, List.map_append]
              have e2 : [z].filter (fun y => decide (y ≠ C.lv (C.low + ((0 : Nat) : Int)) (C.chs p (powR one n)))) = [z] := by
                rw [List.filter_cons, if_pos (decide_eq_true e)]
                rfl
              rw [e2]
              rfl
          · have e := bne_f e
            refine ⟨?_, s22⟩
            rw [hD22, take_snoc hz, List.filter_append]
            have e2 : [z].filter (fun y => decide (y ≠ C.lv (C.low + ((0 : Nat) : Int)) (C.chs p (powR one n)))) = [] := by
              rw [List.filter_cons, if_neg (by rw [e]; simp)]
              rfl
            rw [e2, List.append_nil]
        rintro H22 ⟨hD22, s22⟩
        rw [List.length_map, List.take_length] at hD22
        refine ⟨Nat.zero_le _, fun L hL => ?_⟩
        have s23 := same_new (o := .lst []) hL
        refine ⟨.list (pis _), .list [], .lst (SqL.of (s23 _ _ hD22)) (dp_ints _), .lst (SqL.of upd_same) .nil, shaped_ints _, by rfl, ?_⟩
        rw [eqv_nil]
        have hfin : ((C.mapL (C.chs p (powR one n))).filter fun y => decide (y ≠ C.lv (C.low + ((0 : Nat) : Int)) (C.chs p (powR one n)))).isEmpty = decide (C.lv (C.low + ((0 : Nat) : Int)) (C.chs p (powR one n)) = C.lv (C.low + (wn : Int)) (C.chs p (powR one n))) := by
          unfold Cod.mapL
          rw [hwn]
          exact upto_same (f := fun x => C.lv (C.low + (x : Int)) (C.chs p (powR one n))) (w := wn) fun a b hab => lv_mono O _ (by omega)
        have hbb : decide (V.int (C.lv (C.low + ((0 : Nat) : Int)) (C.chs p (powR one n))) = V.int (C.lv (C.low + (wn : Int)) (C.chs p (powR one n)))) = decide (C.lv (C.low + ((0 : Nat) : Int)) (C.chs p (powR one n)) = C.lv (C.low + (wn : Int)) (C.chs p (powR one n))) := by
          by_cases h : C.lv (C.low + ((0 : Nat) : Int)) (C.chs p (powR one n)) = C.lv (C.low + (wn : Int)) (C.chs p (powR one n))
          · rw [decide_eq_true h, decide_eq_true (congrArg V.int h)]
          · rw [decide_eq_false h, decide_eq_false (fun z => h (V.int.inj z))]
        refine ⟨rfl, _, rfl, ?_⟩
        rw [neB (hbb.trans hfin.symm)]
        refine iteF ?_
        exact ⟨_, _, _, _, _, _, _, _, _, _, _, l18, rfl, kp18.trans (keep_same (s1821.trans (s22.trans s23))), D18.same (s1821.trans (s22.trans s23))⟩
      · rintro σ H7 ⟨y2, y7, y8, y9, y10, y11, y12, y13, y14, y15, y16, l7, rfl, kp7, D7⟩
        have sm3 := sm.st.2
        exact ⟨_, _, _, _, _, _, _, _, _, _, _, _, _, _, _, l7, rfl, D7.less (by rw [hsl]; omega)⟩
    · rintro σ H2 ⟨x2, x3, x4, x5, x6, x7, x8, x9, x10, x11, x12, x13, x14, x15, x16, l2, rfl, D2⟩
      exact q H2
end
end My

namespace My
open PySem PySem.Spec PyProof.Rows L2
set_option maxHeartbeats 0 in
theorem all_mk {l : PySem.W.OpenLaw} {w : World} {K : PySem.W.Frag} {h : Heap} {mg : Str → Option Value} {fa : Addr} (X : K.In h) (G : h.Ns mainGlobals mg) (hfa : mg "law" = some (.ref fa))
    {oc0 kV0 dc0 pm0 cd0 ct0 : Value} {od0 an0 : Option Addr} {sl0 : Array (Option Value)} {f0 : Addr}
    {oc1 kV1 dc1 pm1 cd1 ct1 : Value} {od1 an1 : Option Addr} {sl1 : Array (Option Value)} {f1 : Addr}
    {oc2 kV2 dc2 pm2 cd2 ct2 : Value} {od2 an2 : Option Addr} {sl2 : Array (Option Value)} {f2 : Addr}
    {oc3 kV3 dc3 pm3 cd3 ct3 : Value} {od3 an3 : Option Addr} {sl3 : Array (Option Value)} {f3 : Addr}
    {oc4 kV4 dc4 pm4 cd4 ct4 : Value} {od4 an4 : Option Addr} {sl4 : Array (Option Value)} {f4 : Addr}
    {oc5 kV5 dc5 pm5 cd5 ct5 : Value} {od5 an5 : Option Addr} {sl5 : Array (Option Value)} {f5 : Addr}
    {oc6 kV6 dc6 pm6 cd6 ct6 : Value} {od6 an6 : Option Addr} {sl6 : Array (Option Value)} {f6 : Addr}
    {oc7 kV7 dc7 pm7 cd7 ct7 : Value} {od7 an7 : Option Addr} {sl7 : Array (Option Value)} {f7 : Addr}
    {oc8 kV8 dc8 pm8 cd8 ct8 : Value} {od8 an8 : Option Addr} {sl8 : Array (Option Value)} {f8 : Addr}
    {oc9 kV9 dc9 pm9 cd9 ct9 : Value} {od9 an9 : Option Addr} {sl9 : Array (Option Value)} {f9 : Addr}
    {oc10 kV10 dc10 pm10 cd10 ct10 : Value} {od10 an10 : Option Addr} {sl10 : Array (Option Value)} {f10 : Addr}
    {oc11 kV11 dc11 pm11 cd11 ct11 : Value} {od11 an11 : Option Addr} {sl11 : Array (Option Value)} {f11 : Addr}
    {oc12 kV12 dc12 pm12 cd12 ct12 : Value} {od12 an12 : Option Addr} {sl12 : Array (Option Value)} {f12 : Addr}
    {oc13 kV13 dc13 pm13 cd13 ct13 : Value} {od13 an13 : Option Addr} {sl13 : Array (Option Value)} {f13 : Addr}
    {oc14 kV14 dc14 pm14 cd14 ct14 : Value} {od14 an14 : Option Addr} {sl14 : Array (Option Value)} {f14 : Addr}
    {oc15 kV15 dc15 pm15 cd15 ct15 : Value} {od15 an15 : Option Addr} {sl15 : Array (Option Value)} {f15 : Addr}
    {oc16 kV16 dc16 pm16 cd16 ct16 : Value} {od16 an16 : Option Addr} {sl16 : Array (Option Value)} {f16 : Addr}
    {oc17 kV17 dc17 pm17 cd17 ct17 : Value} {od17 an17 : Option Addr} {sl17 : Array (Option Value)} {f17 : Addr}
    {oc18 kV18 dc18 pm18 cd18 ct18 : Value} {od18 an18 : Option Addr} {sl18 : Array (Option Value)} {f18 : Addr}
    {oc19 kV19 dc19 pm19 cd19 ct19 : Value} {od19 an19 : Option Addr} {sl19 : Array (Option Value)} {f19 : Addr}
    {oc20 kV20 dc20 pm20 cd20 ct20 : Value} {od20 an20 : Option Addr} {sl20 : Array (Option Value)} {f20 : Addr}
    {oc21 kV21 dc21 pm21 cd21 ct21 : Value} {od21 an21 : Option Addr} {sl21 : Array (Option Value)} {f21 : Addr}
    {oc22 kV22 dc22 pm22 cd22 ct22 : Value} {od22 an22 : Option Addr} {sl22 : Array (Option Value)} {f22 : Addr}
    {oc23 kV23 dc23 pm23 cd23 ct23 : Value} {od23 an23 : Option Addr} {sl23 : Array (Option Value)} {f23 : Addr}
    {oc24 kV24 dc24 pm24 cd24 ct24 : Value} {od24 an24 : Option Addr} {sl24 : Array (Option Value)} {f24 : Addr}
    {oc25 kV25 dc25 pm25 cd25 ct25 : Value} {od25 an25 : Option Addr} {sl25 : Array (Option Value)} {f25 : Addr}
    {oc26 kV26 dc26 pm26 cd26 ct26 : Value} {od26 an26 : Option Addr} {sl26 : Array (Option Value)} {f26 : Addr}
    {oc27 kV27 dc27 pm27 cd27 ct27 : Value} {od27 an27 : Option Addr} {sl27 : Array (Option Value)} {f27 : Addr}
    {oc28 kV28 dc28 pm28 cd28 ct28 : Value} {od28 an28 : Option Addr} {sl28 : Array (Option Value)} {f28 : Addr}
    {oc29 dc29 pm29 cd29 ct29 : Value} {od29 an29 : Option Addr} {sl29 : Array (Option Value)} {f29 D29 q29 : Addr}
    {dd29 : Option Addr} {tq29 tr29 : Tok} {nq29 : Nat} {sq29 : Array (Option Value)}
    {oc30 kV30 dc30 pm30 cd30 ct30 : Value} {od30 an30 : Option Addr} {sl30 : Array (Option Value)} {f30 : Addr}
    {oc31 kV31 dc31 pm31 cd31 ct31 : Value} {od31 an31 : Option Addr} {sl31 : Array (Option Value)} {f31 : Addr}
    {oc32 kV32 dc32 pm32 cd32 ct32 : Value} {od32 an32 : Option Addr} {sl32 : Array (Option Value)} {f32 : Addr}
    {oc33 kV33 dc33 pm33 cd33 ct33 : Value} {od33 an33 : Option Addr} {sl33 : Array (Option Value)} {f33 : Addr}
    {oc34 kV34 dc34 pm34 cd34 ct34 : Value} {od34 an34 : Option Addr} {sl34 : Array (Option Value)} {f34 : Addr}
    {oc35 kV35 dc35 pm35 cd35 ct35 : Value} {od35 an35 : Option Addr} {sl35 : Array (Option Value)} {f35 : Addr}
    {oc36 kV36 dc36 pm36 cd36 ct36 : Value} {od36 an36 : Option Addr} {sl36 : Array (Option Value)} {f36 : Addr}
    {oc37 kV37 dc37 pm37 cd37 ct37 : Value} {od37 an37 : Option Addr} {sl37 : Array (Option Value)} {f37 : Addr}
    {oc38 kV38 dc38 pm38 cd38 ct38 : Value} {od38 an38 : Option Addr} {sl38 : Array (Option Value)} {f38 : Addr}
    {oc39 kV39 dc39 pm39 cd39 ct39 : Value} {od39 an39 : Option Addr} {sl39 : Array (Option Value)} {f39 : Addr}
    {oc40 kV40 dc40 pm40 cd40 ct40 : Value} {od40 an40 : Option Addr} {sl40 : Array (Option Value)} {f40 : Addr}
    {tMC : Tok}
    (a0 : PySem.W.nsIn K mainGlobals "is_integer" = some (some (.ref f0)))
    (l0 : K.lookup f0 = some ⟨oc0, od0, .func (PySem.W.fnOf "is_integer" "is_integer" (defArgs s_is_integer) (defBody s_is_integer) (defScope s_is_integer) .none kV0 dc0 pm0 an0 cd0 ct0), sl0⟩)
    (c0 : PySem.W.codeIn K cd0 "is_integer" = true)
    (k0 : PySem.W.keepIn K (.ref f0) = true)
    (a1 : PySem.W.nsIn K mainGlobals "is_between" = some (some (.ref f1)))
    (l1 : K.lookup f1 = some ⟨oc1, od1, .func (PySem.W.fnOf "is_between" "is_between" (defArgs s_is_between) (defBody s_is_between) (defScope s_is_between) .none kV1 dc1 pm1 an1 cd1 ct1), sl1⟩)
    (c1 : PySem.W.codeIn K cd1 "is_between" = true)
    (k1 : PySem.W.keepIn K (.ref f1) = true)
    (a2 : PySem.W.nsIn K mainGlobals "is_pair" = some (some (.ref f2)))
    (l2 : K.lookup f2 = some ⟨oc2, od2, .func (PySem.W.fnOf "is_pair" "is_pair" (defArgs s_is_pair) (defBody s_is_pair) (defScope s_is_pair) .none kV2 dc2 pm2 an2 cd2 ct2), sl2⟩)
    (c2 : PySem.W.codeIn K cd2 "is_pair" = true)
    (k2 : PySem.W.keepIn K (.ref f2) = true)
    (a3 : PySem.W.nsIn K mainGlobals "is_code" = some (some (.ref f3)))
    (l3 : K.lookup f3 = some ⟨oc3, od3, .func (PySem.W.fnOf "is_code" "is_code" (defArgs s_is_code) (defBody s_is_code) (defScope s_is_code) .none kV3 dc3 pm3 an3 cd3 ct3), sl3⟩)
    (c3 : PySem.W.codeIn K cd3 "is_code" = true)
    (k3 : PySem.W.keepIn K (.ref f3) = true)
    (a4 : PySem.W.nsIn K mainGlobals "is_place" = some (some (.ref f4)))
    (l4 : K.lookup f4 = some ⟨oc4, od4, .func (PySem.W.fnOf "is_place" "is_place" (defArgs s_is_place) (defBody s_is_place) (defScope s_is_place) .none kV4 dc4 pm4 an4 cd4 ct4), sl4⟩)
    (c4 : PySem.W.codeIn K cd4 "is_place" = true)
    (k4 : PySem.W.keepIn K (.ref f4) = true)
    (a5 : PySem.W.nsIn K mainGlobals "is_state" = some (some (.ref f5)))
    (l5 : K.lookup f5 = some ⟨oc5, od5, .func (PySem.W.fnOf "is_state" "is_state" (defArgs s_is_state) (defBody s_is_state) (defScope s_is_state) .none kV5 dc5 pm5 an5 cd5 ct5), sl5⟩)
    (c5 : PySem.W.codeIn K cd5 "is_state" = true)
    (k5 : PySem.W.keepIn K (.ref f5) = true)
    (a6 : PySem.W.nsIn K mainGlobals "need_place" = some (some (.ref f6)))
    (l6 : K.lookup f6 = some ⟨oc6, od6, .func (PySem.W.fnOf "need_place" "need_place" (defArgs s_need_place) (defBody s_need_place) (defScope s_need_place) .none kV6 dc6 pm6 an6 cd6 ct6), sl6⟩)
    (c6 : PySem.W.codeIn K cd6 "need_place" = true)
    (k6 : PySem.W.keepIn K (.ref f6) = true)
    (a7 : PySem.W.nsIn K mainGlobals "need_state" = some (some (.ref f7)))
    (l7 : K.lookup f7 = some ⟨oc7, od7, .func (PySem.W.fnOf "need_state" "need_state" (defArgs s_need_state) (defBody s_need_state) (defScope s_need_state) .none kV7 dc7 pm7 an7 cd7 ct7), sl7⟩)
    (c7 : PySem.W.codeIn K cd7 "need_state" = true)
    (k7 : PySem.W.keepIn K (.ref f7) = true)
    (a8 : PySem.W.nsIn K mainGlobals "need_times" = some (some (.ref f8)))
    (l8 : K.lookup f8 = some ⟨oc8, od8, .func (PySem.W.fnOf "need_times" "need_times" (defArgs s_need_times) (defBody s_need_times) (defScope s_need_times) .none kV8 dc8 pm8 an8 cd8 ct8), sl8⟩)
    (c8 : PySem.W.codeIn K cd8 "need_times" = true)
    (k8 : PySem.W.keepIn K (.ref f8) = true)
    (a9 : PySem.W.nsIn K mainGlobals "need_row" = some (some (.ref f9)))
    (l9 : K.lookup f9 = some ⟨oc9, od9, .func (PySem.W.fnOf "need_row" "need_row" (defArgs s_need_row) (defBody s_need_row) (defScope s_need_row) .none kV9 dc9 pm9 an9 cd9 ct9), sl9⟩)
    (c9 : PySem.W.codeIn K cd9 "need_row" = true)
    (k9 : PySem.W.keepIn K (.ref f9) = true)
    (a10 : PySem.W.nsIn K mainGlobals "need_few_states" = some (some (.ref f10)))
    (l10 : K.lookup f10 = some ⟨oc10, od10, .func (PySem.W.fnOf "need_few_states" "need_few_states" (defArgs s_need_few_states) (defBody s_need_few_states) (defScope s_need_few_states) .none kV10 dc10 pm10 an10 cd10 ct10), sl10⟩)
    (c10 : PySem.W.codeIn K cd10 "need_few_states" = true)
    (k10 : PySem.W.keepIn K (.ref f10) = true)
    (a11 : PySem.W.nsIn K mainGlobals "rounded" = some (some (.ref f11)))
    (l11 : K.lookup f11 = some ⟨oc11, od11, .func (PySem.W.fnOf "rounded" "rounded" (defArgs s_rounded) (defBody s_rounded) (defScope s_rounded) .none kV11 dc11 pm11 an11 cd11 ct11), sl11⟩)
    (c11 : PySem.W.codeIn K cd11 "rounded" = true)
    (k11 : PySem.W.keepIn K (.ref f11) = true)
    (a12 : PySem.W.nsIn K mainGlobals "limited" = some (some (.ref f12)))
    (l12 : K.lookup f12 = some ⟨oc12, od12, .func (PySem.W.fnOf "limited" "limited" (defArgs s_limited) (defBody s_limited) (defScope s_limited) .none kV12 dc12 pm12 an12 cd12 ct12), sl12⟩)
    (c12 : PySem.W.codeIn K cd12 "limited" = true)
    (k12 : PySem.W.keepIn K (.ref f12) = true)
    (a13 : PySem.W.nsIn K mainGlobals "change_at" = some (some (.ref f13)))
    (l13 : K.lookup f13 = some ⟨oc13, od13, .func (PySem.W.fnOf "change_at" "change_at" (defArgs s_change_at) (defBody s_change_at) (defScope s_change_at) .none kV13 dc13 pm13 an13 cd13 ct13), sl13⟩)
    (c13 : PySem.W.codeIn K cd13 "change_at" = true)
    (k13 : PySem.W.keepIn K (.ref f13) = true)
    (a14 : PySem.W.nsIn K mainGlobals "faded" = some (some (.ref f14)))
    (l14 : K.lookup f14 = some ⟨oc14, od14, .func (PySem.W.fnOf "faded" "faded" (defArgs s_faded) (defBody s_faded) (defScope s_faded) .none kV14 dc14 pm14 an14 cd14 ct14), sl14⟩)
    (c14 : PySem.W.codeIn K cd14 "faded" = true)
    (k14 : PySem.W.keepIn K (.ref f14) = true)
    (a15 : PySem.W.nsIn K mainGlobals "state_behind" = some (some (.ref f15)))
    (l15 : K.lookup f15 = some ⟨oc15, od15, .func (PySem.W.fnOf "state_behind" "state_behind" (defArgs s_state_behind) (defBody s_state_behind) (defScope s_state_behind) .none kV15 dc15 pm15 an15 cd15 ct15), sl15⟩)
    (c15 : PySem.W.codeIn K cd15 "state_behind" = true)
    (k15 : PySem.W.keepIn K (.ref f15) = true)
    (a16 : PySem.W.nsIn K mainGlobals "state_behind_row" = some (some (.ref f16)))
    (l16 : K.lookup f16 = some ⟨oc16, od16, .func (PySem.W.fnOf "state_behind_row" "state_behind_row" (defArgs s_state_behind_row) (defBody s_state_behind_row) (defScope s_state_behind_row) .none kV16 dc16 pm16 an16 cd16 ct16), sl16⟩)
    (c16 : PySem.W.codeIn K cd16 "state_behind_row" = true)
    (k16 : PySem.W.keepIn K (.ref f16) = true)
    (a17 : PySem.W.nsIn K mainGlobals "need_coder" = some (some (.ref f17)))
    (l17 : K.lookup f17 = some ⟨oc17, od17, .func (PySem.W.fnOf "need_coder" "need_coder" (defArgs s_need_coder) (defBody s_need_coder) (defScope s_need_coder) .none kV17 dc17 pm17 an17 cd17 ct17), sl17⟩)
    (c17 : PySem.W.codeIn K cd17 "need_coder" = true)
    (k17 : PySem.W.keepIn K (.ref f17) = true)
    (a18 : PySem.W.nsIn K mainGlobals "_first_fault" = some (some (.ref f18)))
    (l18 : K.lookup f18 = some ⟨oc18, od18, .func (PySem.W.fnOf "_first_fault" "_first_fault" (defArgs s_first_fault) (defBody s_first_fault) (defScope s_first_fault) .none kV18 dc18 pm18 an18 cd18 ct18), sl18⟩)
    (c18 : PySem.W.codeIn K cd18 "_first_fault" = true)
    (k18 : PySem.W.keepIn K (.ref f18) = true)
    (a19 : PySem.W.nsIn K mainGlobals "_fault_of_steps" = some (some (.ref f19)))
    (l19 : K.lookup f19 = some ⟨oc19, od19, .func (PySem.W.fnOf "_fault_of_steps" "_fault_of_steps" (defArgs s_fault_of_steps) (defBody s_fault_of_steps) (defScope s_fault_of_steps) .none kV19 dc19 pm19 an19 cd19 ct19), sl19⟩)
    (c19 : PySem.W.codeIn K cd19 "_fault_of_steps" = true)
    (k19 : PySem.W.keepIn K (.ref f19) = true)
    (a20 : PySem.W.nsIn K mainGlobals "_fault_of_moves" = some (some (.ref f20)))
    (l20 : K.lookup f20 = some ⟨oc20, od20, .func (PySem.W.fnOf "_fault_of_moves" "_fault_of_moves" (defArgs s_fault_of_moves) (defBody s_fault_of_moves) (defScope s_fault_of_moves) .none kV20 dc20 pm20 an20 cd20 ct20), sl20⟩)
    (c20 : PySem.W.codeIn K cd20 "_fault_of_moves" = true)
    (k20 : PySem.W.keepIn K (.ref f20) = true)
    (a21 : PySem.W.nsIn K mainGlobals "_is_tuple_of" = some (some (.ref f21)))
    (l21 : K.lookup f21 = some ⟨oc21, od21, .func (PySem.W.fnOf "_is_tuple_of" "_is_tuple_of" (defArgs s_is_tuple_of) (defBody s_is_tuple_of) (defScope s_is_tuple_of) .none kV21 dc21 pm21 an21 cd21 ct21), sl21⟩)
    (c21 : PySem.W.codeIn K cd21 "_is_tuple_of" = true)
    (k21 : PySem.W.keepIn K (.ref f21) = true)
    (a22 : PySem.W.nsIn K mainGlobals "_is_move" = some (some (.ref f22)))
    (l22 : K.lookup f22 = some ⟨oc22, od22, .func (PySem.W.fnOf "_is_move" "_is_move" (defArgs s_is_move) (defBody s_is_move) (defScope s_is_move) .none kV22 dc22 pm22 an22 cd22 ct22), sl22⟩)
    (c22 : PySem.W.codeIn K cd22 "_is_move" = true)
    (k22 : PySem.W.keepIn K (.ref f22) = true)
    (a23 : PySem.W.nsIn K mainGlobals "_is_fade" = some (some (.ref f23)))
    (l23 : K.lookup f23 = some ⟨oc23, od23, .func (PySem.W.fnOf "_is_fade" "_is_fade" (defArgs s_is_fade) (defBody s_is_fade) (defScope s_is_fade) .none kV23 dc23 pm23 an23 cd23 ct23), sl23⟩)
    (c23 : PySem.W.codeIn K cd23 "_is_fade" = true)
    (k23 : PySem.W.keepIn K (.ref f23) = true)
    (a24 : PySem.W.nsIn K mainGlobals "changes_along" = some (some (.ref f24)))
    (l24 : K.lookup f24 = some ⟨oc24, od24, .func (PySem.W.fnOf "changes_along" "changes_along" (defArgs s_changes_along) (defBody s_changes_along) (defScope s_changes_along) .none kV24 dc24 pm24 an24 cd24 ct24), sl24⟩)
    (c24 : PySem.W.codeIn K cd24 "changes_along" = true)
    (k24 : PySem.W.keepIn K (.ref f24) = true)
    (a25 : PySem.W.nsIn K mainGlobals "level_behind" = some (some (.ref f25)))
    (l25 : K.lookup f25 = some ⟨oc25, od25, .func (PySem.W.fnOf "level_behind" "level_behind" (defArgs s_level_behind) (defBody s_level_behind) (defScope s_level_behind) .none kV25 dc25 pm25 an25 cd25 ct25), sl25⟩)
    (c25 : PySem.W.codeIn K cd25 "level_behind" = true)
    (k25 : PySem.W.keepIn K (.ref f25) = true)
    (a26 : PySem.W.nsIn K mainGlobals "limits_behind" = some (some (.ref f26)))
    (l26 : K.lookup f26 = some ⟨oc26, od26, .func (PySem.W.fnOf "limits_behind" "limits_behind" (defArgs s_limits_behind) (defBody s_limits_behind) (defScope s_limits_behind) .none kV26 dc26 pm26 an26 cd26 ct26), sl26⟩)
    (c26 : PySem.W.codeIn K cd26 "limits_behind" = true)
    (k26 : PySem.W.keepIn K (.ref f26) = true)
    (a27 : PySem.W.nsIn K mainGlobals "levels_behind" = some (some (.ref f27)))
    (l27 : K.lookup f27 = some ⟨oc27, od27, .func (PySem.W.fnOf "levels_behind" "levels_behind" (defArgs s_levels_behind) (defBody s_levels_behind) (defScope s_levels_behind) .none kV27 dc27 pm27 an27 cd27 ct27), sl27⟩)
    (c27 : PySem.W.codeIn K cd27 "levels_behind" = true)
    (k27 : PySem.W.keepIn K (.ref f27) = true)
    (a28 : PySem.W.nsIn K mainGlobals "row_map" = some (some (.ref f28)))
    (l28 : K.lookup f28 = some ⟨oc28, od28, .func (PySem.W.fnOf "row_map" "row_map" (defArgs s_row_map) (defBody s_row_map) (defScope s_row_map) .none kV28 dc28 pm28 an28 cd28 ct28), sl28⟩)
    (c28 : PySem.W.codeIn K cd28 "row_map" = true)
    (k28 : PySem.W.keepIn K (.ref f28) = true)
    (a29 : PySem.W.nsIn K mainGlobals "last_of" = some (some (.ref f29)))
    (l29 : K.lookup f29 = some ⟨oc29, od29, .func (PySem.W.fnOf "last_of" "last_of" (defArgs s_last_of) (defBody s_last_of) (defScope s_last_of) .none (.ref D29) dc29 pm29 an29 cd29 ct29), sl29⟩)
    (c29 : PySem.W.codeIn K cd29 "last_of" = true)
    (k29 : PySem.W.keepIn K (.ref f29) = true)
    (n29 : PySem.W.nsIn K D29 "state" = some (some (.ref q29)))
    (t29 : K.lookup q29 = some ⟨.type "tuple", dd29, .seq #[.int 0 tq29, .int 0 tr29] nq29, sq29⟩)
    (a30 : PySem.W.nsIn K mainGlobals "_need_coder_and_row" = some (some (.ref f30)))
    (l30 : K.lookup f30 = some ⟨oc30, od30, .func (PySem.W.fnOf "_need_coder_and_row" "_need_coder_and_row" (defArgs s_need_coder_and_row) (defBody s_need_coder_and_row) (defScope s_need_coder_and_row) .none kV30 dc30 pm30 an30 cd30 ct30), sl30⟩)
    (c30 : PySem.W.codeIn K cd30 "_need_coder_and_row" = true)
    (k30 : PySem.W.keepIn K (.ref f30) = true)
    (a31 : PySem.W.nsIn K mainGlobals "_state_behind_times" = some (some (.ref f31)))
    (l31 : K.lookup f31 = some ⟨oc31, od31, .func (PySem.W.fnOf "_state_behind_times" "_state_behind_times" (defArgs s_state_behind_times) (defBody s_state_behind_times) (defScope s_state_behind_times) .none kV31 dc31 pm31 an31 cd31 ct31), sl31⟩)
    (c31 : PySem.W.codeIn K cd31 "_state_behind_times" = true)
    (k31 : PySem.W.keepIn K (.ref f31) = true)
    (a32 : PySem.W.nsIn K mainGlobals "_states_until_settled" = some (some (.ref f32)))
    (l32 : K.lookup f32 = some ⟨oc32, od32, .func (PySem.W.fnOf "_states_until_settled" "_states_until_settled" (defArgs s_states_until_settled) (defBody s_states_until_settled) (defScope s_states_until_settled) .none kV32 dc32 pm32 an32 cd32 ct32), sl32⟩)
    (c32 : PySem.W.codeIn K cd32 "_states_until_settled" = true)
    (k32 : PySem.W.keepIn K (.ref f32) = true)
    (a33 : PySem.W.nsIn K mainGlobals "_states_until_place_rests" = some (some (.ref f33)))
    (l33 : K.lookup f33 = some ⟨oc33, od33, .func (PySem.W.fnOf "_states_until_place_rests" "_states_until_place_rests" (defArgs s_states_until_place_rests) (defBody s_states_until_place_rests) (defScope s_states_until_place_rests) .none kV33 dc33 pm33 an33 cd33 ct33), sl33⟩)
    (c33 : PySem.W.codeIn K cd33 "_states_until_place_rests" = true)
    (k33 : PySem.W.keepIn K (.ref f33) = true)
    (a34 : PySem.W.nsIn K mainGlobals "_levels_until_settled" = some (some (.ref f34)))
    (l34 : K.lookup f34 = some ⟨oc34, od34, .func (PySem.W.fnOf "_levels_until_settled" "_levels_until_settled" (defArgs s_levels_until_settled) (defBody s_levels_until_settled) (defScope s_levels_until_settled) .none kV34 dc34 pm34 an34 cd34 ct34), sl34⟩)
    (c34 : PySem.W.codeIn K cd34 "_levels_until_settled" = true)
    (k34 : PySem.W.keepIn K (.ref f34) = true)
    (a35 : PySem.W.nsIn K mainGlobals "_level_behind_once" = some (some (.ref f35)))
    (l35 : K.lookup f35 = some ⟨oc35, od35, .func (PySem.W.fnOf "_level_behind_once" "_level_behind_once" (defArgs s_level_behind_once) (defBody s_level_behind_once) (defScope s_level_behind_once) .none kV35 dc35 pm35 an35 cd35 ct35), sl35⟩)
    (c35 : PySem.W.codeIn K cd35 "_level_behind_once" = true)
    (k35 : PySem.W.keepIn K (.ref f35) = true)
    (a36 : PySem.W.nsIn K mainGlobals "_law_begun" = some (some (.ref f36)))
    (l36 : K.lookup f36 = some ⟨oc36, od36, .func (PySem.W.fnOf "_law_begun" "_law_begun" (defArgs s_law_begun) (defBody s_law_begun) (defScope s_law_begun) .none kV36 dc36 pm36 an36 cd36 ct36), sl36⟩)
    (c36 : PySem.W.codeIn K cd36 "_law_begun" = true)
    (k36 : PySem.W.keepIn K (.ref f36) = true)
    (a37 : PySem.W.nsIn K mainGlobals "_law_next" = some (some (.ref f37)))
    (l37 : K.lookup f37 = some ⟨oc37, od37, .func (PySem.W.fnOf "_law_next" "_law_next" (defArgs s_law_next) (defBody s_law_next) (defScope s_law_next) .none kV37 dc37 pm37 an37 cd37 ct37), sl37⟩)
    (c37 : PySem.W.codeIn K cd37 "_law_next" = true)
    (k37 : PySem.W.keepIn K (.ref f37) = true)
    (a38 : PySem.W.nsIn K mainGlobals "_law_coder" = some (some (.ref f38)))
    (l38 : K.lookup f38 = some ⟨oc38, od38, .func (PySem.W.fnOf "_law_coder" "_law_coder" (defArgs s_law_coder) (defBody s_law_coder) (defScope s_law_coder) .none kV38 dc38 pm38 an38 cd38 ct38), sl38⟩)
    (c38 : PySem.W.codeIn K cd38 "_law_coder" = true)
    (k38 : PySem.W.keepIn K (.ref f38) = true)
    (a39 : PySem.W.nsIn K mainGlobals "_law_row" = some (some (.ref f39)))
    (l39 : K.lookup f39 = some ⟨oc39, od39, .func (PySem.W.fnOf "_law_row" "_law_row" (defArgs s_law_row) (defBody s_law_row) (defScope s_law_row) .none kV39 dc39 pm39 an39 cd39 ct39), sl39⟩)
    (c39 : PySem.W.codeIn K cd39 "_law_row" = true)
    (k39 : PySem.W.keepIn K (.ref f39) = true)
    (a40 : PySem.W.nsIn K mainGlobals "law" = some (some (.ref f40)))
    (l40 : K.lookup f40 = some ⟨oc40, od40, .func (PySem.W.fnOf "law" "law" (defArgs s_law) (defBody s_law) (defScope s_law) .none kV40 dc40 pm40 an40 cd40 ct40), sl40⟩)
    (c40 : PySem.W.codeIn K cd40 "law" = true)
    (k40 : PySem.W.keepIn K (.ref f40) = true)
    (z_bool : PySem.W.nsIn K mainGlobals "bool" = some none)
    (z_enumerate : PySem.W.nsIn K mainGlobals "enumerate" = some none)
    (z_int : PySem.W.nsIn K mainGlobals "int" = some none)
    (z_isinstance : PySem.W.nsIn K mainGlobals "isinstance" = some none)
    (z_len : PySem.W.nsIn K mainGlobals "len" = some none)
    (z_list : PySem.W.nsIn K mainGlobals "list" = some none)
    (z_max : PySem.W.nsIn K mainGlobals "max" = some none)
    (z_min : PySem.W.nsIn K mainGlobals "min" = some none)
    (z_range : PySem.W.nsIn K mainGlobals "range" = some none)
    (z_repr : PySem.W.nsIn K mainGlobals "repr" = some none)
    (z_set : PySem.W.nsIn K mainGlobals "set" = some none)
    (z_sorted : PySem.W.nsIn K mainGlobals "sorted" = some none)
    (z_sum : PySem.W.nsIn K mainGlobals "sum" = some none)
    (z_tuple : PySem.W.nsIn K mainGlobals "tuple" = some none)
    (mc : PySem.W.nsIn K mainGlobals "MOST_CODES" = some (some (.int 2000 tMC))) :
    ∃ fd : FuncData, (∀ (s : Shared) (v : Value), BindsTo s fd ⟨[v], []⟩ [("script", v)]) ∧ ∀ base : Heap, K.In base → base.Ns mainGlobals mg → FnG l.prog w K mg base 14 fa fd ["script"] (sp_law (K := K)) := by
  have e := hfa.symm.trans (PySem.W.mg_of X G a40)
  cases e
  have F0 := fun_mk (st := s_is_integer) l0 c0 k0
  have B0 := F0.binds (ps := ["thing"]) fun _ _ _ _ _ _ us hl => match us, hl with | [_], _ => rfl
  have F1 := fun_mk (st := s_is_between) l1 c1 k1
  have B1 := F1.binds (ps := ["thing", "least", "most"]) fun _ _ _ _ _ _ us hl => match us, hl with | [_, _, _], _ => rfl
  have F2 := fun_mk (st := s_is_pair) l2 c2 k2
  have B2 := F2.binds (ps := ["thing"]) fun _ _ _ _ _ _ us hl => match us, hl with | [_], _ => rfl
  have F3 := fun_mk (st := s_is_code) l3 c3 k3
  have B3 := F3.binds (ps := ["coder", "thing"]) fun _ _ _ _ _ _ us hl => match us, hl with | [_, _], _ => rfl
  have F4 := fun_mk (st := s_is_place) l4 c4 k4
  have B4 := F4.binds (ps := ["coder", "thing"]) fun _ _ _ _ _ _ us hl => match us, hl with | [_, _], _ => rfl
  have F5 := fun_mk (st := s_is_state) l5 c5 k5
  have B5 := F5.binds (ps := ["coder", "thing"]) fun _ _ _ _ _ _ us hl => match us, hl with | [_, _], _ => rfl
  have F6 := fun_mk (st := s_need_place) l6 c6 k6
  have B6 := F6.binds (ps := ["coder", "thing"]) fun _ _ _ _ _ _ us hl => match us, hl with | [_, _], _ => rfl
  have F7 := fun_mk (st := s_need_state) l7 c7 k7
  have B7 := F7.binds (ps := ["coder", "thing"]) fun _ _ _ _ _ _ us hl => match us, hl with | [_, _], _ => rfl
  have F8 := fun_mk (st := s_need_times) l8 c8 k8
  have B8 := F8.binds (ps := ["thing"]) fun _ _ _ _ _ _ us hl => match us, hl with | [_], _ => rfl
  have F9 := fun_mk (st := s_need_row) l9 c9 k9
  have B9 := F9.binds (ps := ["coder", "thing"]) fun _ _ _ _ _ _ us hl => match us, hl with | [_, _], _ => rfl
  have F10 := fun_mk (st := s_need_few_states) l10 c10 k10
  have B10 := F10.binds (ps := ["coder", "most"]) fun _ _ _ _ _ _ us hl => match us, hl with | [_, _], _ => rfl
  have F11 := fun_mk (st := s_rounded) l11 c11 k11
  have B11 := F11.binds (ps := ["number", "divisor"]) fun _ _ _ _ _ _ us hl => match us, hl with | [_, _], _ => rfl
  have F12 := fun_mk (st := s_limited) l12 c12 k12
  have B12 := F12.binds (ps := ["number", "least", "most"]) fun _ _ _ _ _ _ us hl => match us, hl with | [_, _, _], _ => rfl
  have F13 := fun_mk (st := s_change_at) l13 c13 k13
  have B13 := F13.binds (ps := ["coder", "code", "place"]) fun _ _ _ _ _ _ us hl => match us, hl with | [_, _, _], _ => rfl
  have F14 := fun_mk (st := s_faded) l14 c14 k14
  have B14 := F14.binds (ps := ["level", "fade"]) fun _ _ _ _ _ _ us hl => match us, hl with | [_, _], _ => rfl
  have F15 := fun_mk (st := s_state_behind) l15 c15 k15
  have B15 := F15.binds (ps := ["coder", "state", "code"]) fun _ _ _ _ _ _ us hl => match us, hl with | [_, _, _], _ => rfl
  have F16 := fun_mk (st := s_state_behind_row) l16 c16 k16
  have B16 := F16.binds (ps := ["coder", "row", "state"]) fun _ _ _ _ _ _ us hl => match us, hl with | [_, _, _], _ => rfl
  have F17 := fun_mk (st := s_need_coder) l17 c17 k17
  have B17 := F17.binds (ps := ["thing"]) fun _ _ _ _ _ _ us hl => match us, hl with | [_], _ => rfl
  have F18 := fun_mk (st := s_first_fault) l18 c18 k18
  have B18 := F18.binds (ps := ["thing"]) fun _ _ _ _ _ _ us hl => match us, hl with | [_], _ => rfl
  have F19 := fun_mk (st := s_fault_of_steps) l19 c19 k19
  have B19 := F19.binds (ps := ["steps"]) fun _ _ _ _ _ _ us hl => match us, hl with | [_], _ => rfl
  have F20 := fun_mk (st := s_fault_of_moves) l20 c20 k20
  have B20 := F20.binds (ps := ["moves"]) fun _ _ _ _ _ _ us hl => match us, hl with | [_], _ => rfl
  have F21 := fun_mk (st := s_is_tuple_of) l21 c21 k21
  have B21 := F21.binds (ps := ["thing", "least", "most"]) fun _ _ _ _ _ _ us hl => match us, hl with | [_, _, _], _ => rfl
  have F22 := fun_mk (st := s_is_move) l22 c22 k22
  have B22 := F22.binds (ps := ["thing"]) fun _ _ _ _ _ _ us hl => match us, hl with | [_], _ => rfl
  have F23 := fun_mk (st := s_is_fade) l23 c23 k23
  have B23 := F23.binds (ps := ["thing"]) fun _ _ _ _ _ _ us hl => match us, hl with | [_], _ => rfl
  have F24 := fun_mk (st := s_changes_along) l24 c24 k24
  have B24 := F24.binds (ps := ["coder", "row", "place"]) fun _ _ _ _ _ _ us hl => match us, hl with | [_, _, _], _ => rfl
  have F25 := fun_mk (st := s_level_behind) l25 c25 k25
  have B25 := F25.binds (ps := ["coder", "changes", "level"]) fun _ _ _ _ _ _ us hl => match us, hl with | [_, _, _], _ => rfl
  have F26 := fun_mk (st := s_limits_behind) l26 c26 k26
  have B26 := F26.binds (ps := ["coder", "changes"]) fun _ _ _ _ _ _ us hl => match us, hl with | [_, _], _ => rfl
  have F27 := fun_mk (st := s_levels_behind) l27 c27 k27
  have B27 := F27.binds (ps := ["coder", "changes"]) fun _ _ _ _ _ _ us hl => match us, hl with | [_, _], _ => rfl
  have F28 := fun_mk (st := s_row_map) l28 c28 k28
  have B28 := F28.binds (ps := ["coder", "row", "place"]) fun _ _ _ _ _ _ us hl => match us, hl with | [_, _, _], _ => rfl
  have F29 : FunD K "last_of" "last_of" (defArgs s_last_of) (defBody s_last_of) (defScope s_last_of) [] [("state", V.ref q29)] f29 _ := ⟨⟨_, _, .none, .ref D29, _, _, _, _, _, _, rfl, l29, c29, .inl ⟨rfl, rfl⟩, .inr ⟨D29, rfl, fun p hp => by rw [List.mem_singleton.mp hp]; exact ⟨.ref q29, n29, rfl⟩⟩⟩, k29⟩
  obtain ⟨e29, ev29, B29⟩ := F29.binds0 (ps := ["coder", "row", "times", "state"]) 3 (by simp) rfl (fun D doc pm an cdv ct us ks hl hk => match us, hl, ks, hk with | [_, _, _], _, [_], _ => ⟨_, _, _, _, _, _, rfl, rfl, rfl⟩)
  have F30 := fun_mk (st := s_need_coder_and_row) l30 c30 k30
  have B30 := F30.binds (ps := ["coder", "row"]) fun _ _ _ _ _ _ us hl => match us, hl with | [_, _], _ => rfl
  have F31 := fun_mk (st := s_state_behind_times) l31 c31 k31
  have B31 := F31.binds (ps := ["coder", "row", "times", "state"]) fun _ _ _ _ _ _ us hl => match us, hl with | [_, _, _, _], _ => rfl
  have F32 := fun_mk (st := s_states_until_settled) l32 c32 k32
  have B32 := F32.binds (ps := ["coder", "row", "state"]) fun _ _ _ _ _ _ us hl => match us, hl with | [_, _, _], _ => rfl
  have F33 := fun_mk (st := s_states_until_place_rests) l33 c33 k33
  have B33 := F33.binds (ps := ["coder", "row", "state"]) fun _ _ _ _ _ _ us hl => match us, hl with | [_, _, _], _ => rfl
  have F34 := fun_mk (st := s_levels_until_settled) l34 c34 k34
  have B34 := F34.binds (ps := ["coder", "changes", "level"]) fun _ _ _ _ _ _ us hl => match us, hl with | [_, _, _], _ => rfl
  have F35 := fun_mk (st := s_level_behind_once) l35 c35 k35
  have B35 := F35.binds (ps := ["coder", "changes", "limits", "level"]) fun _ _ _ _ _ _ us hl => match us, hl with | [_, _, _, _], _ => rfl
  have F36 := fun_mk (st := s_law_begun) l36 c36 k36
  have B36 := F36.binds (ps := ["script"]) fun _ _ _ _ _ _ us hl => match us, hl with | [_], _ => rfl
  have F37 := fun_mk (st := s_law_next) l37 c37 k37
  have B37 := F37.binds (ps := ["m", "many"]) fun _ _ _ _ _ _ us hl => match us, hl with | [_, _], _ => rfl
  have F38 := fun_mk (st := s_law_coder) l38 c38 k38
  have B38 := F38.binds (ps := ["m", "wide", "places", "codes"]) fun _ _ _ _ _ _ us hl => match us, hl with | [_, _, _, _], _ => rfl
  have F39 := fun_mk (st := s_law_row) l39 c39 k39
  have B39 := F39.binds (ps := ["m", "coder", "many"]) fun _ _ _ _ _ _ us hl => match us, hl with | [_, _, _], _ => rfl
  have F40 := fun_mk (st := s_law) l40 c40 k40
  have B40 := F40.binds (ps := ["script"]) fun _ _ _ _ _ _ us hl => match us, hl with | [_], _ => rfl
  let T : Txt K mg := {
    f_is_integer := f0, d_is_integer := _, F_is_integer := F0, b_is_integer := B0, g_is_integer := PySem.W.mg_of X G a0,
    f_is_between := f1, d_is_between := _, F_is_between := F1, b_is_between := B1, g_is_between := PySem.W.mg_of X G a1,
    f_is_pair := f2, d_is_pair := _, F_is_pair := F2, b_is_pair := B2, g_is_pair := PySem.W.mg_of X G a2,
    f_is_code := f3, d_is_code := _, F_is_code := F3, b_is_code := B3, g_is_code := PySem.W.mg_of X G a3,
    f_is_place := f4, d_is_place := _, F_is_place := F4, b_is_place := B4, g_is_place := PySem.W.mg_of X G a4,
    f_is_state := f5, d_is_state := _, F_is_state := F5, b_is_state := B5, g_is_state := PySem.W.mg_of X G a5,
    f_need_place := f6, d_need_place := _, F_need_place := F6, b_need_place := B6, g_need_place := PySem.W.mg_of X G a6,
    f_need_state := f7, d_need_state := _, F_need_state := F7, b_need_state := B7, g_need_state := PySem.W.mg_of X G a7,
    f_need_times := f8, d_need_times := _, F_need_times := F8, b_need_times := B8, g_need_times := PySem.W.mg_of X G a8,
    f_need_row := f9, d_need_row := _, F_need_row := F9, b_need_row := B9, g_need_row := PySem.W.mg_of X G a9,
    f_need_few_states := f10, d_need_few_states := _, F_need_few_states := F10, b_need_few_states := B10, g_need_few_states := PySem.W.mg_of X G a10,
    f_rounded := f11, d_rounded := _, F_rounded := F11, b_rounded := B11, g_rounded := PySem.W.mg_of X G a11,
    f_limited := f12, d_limited := _, F_limited := F12, b_limited := B12, g_limited := PySem.W.mg_of X G a12,
    f_change_at := f13, d_change_at := _, F_change_at := F13, b_change_at := B13, g_change_at := PySem.W.mg_of X G a13,
    f_faded := f14, d_faded := _, F_faded := F14, b_faded := B14, g_faded := PySem.W.mg_of X G a14,
    f_state_behind := f15, d_state_behind := _, F_state_behind := F15, b_state_behind := B15, g_state_behind := PySem.W.mg_of X G a15,
    f_state_behind_row := f16, d_state_behind_row := _, F_state_behind_row := F16, b_state_behind_row := B16, g_state_behind_row := PySem.W.mg_of X G a16,
    f_need_coder := f17, d_need_coder := _, F_need_coder := F17, b_need_coder := B17, g_need_coder := PySem.W.mg_of X G a17,
    f__first_fault := f18, d__first_fault := _, F__first_fault := F18, b__first_fault := B18, g__first_fault := PySem.W.mg_of X G a18,
    f__fault_of_steps := f19, d__fault_of_steps := _, F__fault_of_steps := F19, b__fault_of_steps := B19, g__fault_of_steps := PySem.W.mg_of X G a19,
    f__fault_of_moves := f20, d__fault_of_moves := _, F__fault_of_moves := F20, b__fault_of_moves := B20, g__fault_of_moves := PySem.W.mg_of X G a20,
    f__is_tuple_of := f21, d__is_tuple_of := _, F__is_tuple_of := F21, b__is_tuple_of := B21, g__is_tuple_of := PySem.W.mg_of X G a21,
    f__is_move := f22, d__is_move := _, F__is_move := F22, b__is_move := B22, g__is_move := PySem.W.mg_of X G a22,
    f__is_fade := f23, d__is_fade := _, F__is_fade := F23, b__is_fade := B23, g__is_fade := PySem.W.mg_of X G a23,
    f_changes_along := f24, d_changes_along := _, F_changes_along := F24, b_changes_along := B24, g_changes_along := PySem.W.mg_of X G a24,
    f_level_behind := f25, d_level_behind := _, F_level_behind := F25, b_level_behind := B25, g_level_behind := PySem.W.mg_of X G a25,
    f_limits_behind := f26, d_limits_behind := _, F_limits_behind := F26, b_limits_behind := B26, g_limits_behind := PySem.W.mg_of X G a26,
    f_levels_behind := f27, d_levels_behind := _, F_levels_behind := F27, b_levels_behind := B27, g_levels_behind := PySem.W.mg_of X G a27,
    f_row_map := f28, d_row_map := _, F_row_map := F28, b_row_map := B28, g_row_map := PySem.W.mg_of X G a28,
    f_last_of := f29, d_last_of := _, F_last_of := ⟨_, F29⟩, kp_last_of := k29, q_last_of := q29, qs_last_of := fun H => .inr ⟨_, #[.int 0 tq29, .int 0 tr29], _, t29, rfl, rfl, (by show 2 ≤ sizeLine; decide), .cons ⟨_, rfl⟩ (.cons ⟨_, rfl⟩ .nil)⟩, e_last_of := e29, ev_last_of := ev29, b_last_of := B29, k_last_of := ⟨fun s us ws _ hl hk => .of_eq (match us, hl, ws, hk with | [_, _, _], _, [_], _ => rfl), fun r rz => r.append rz⟩, g_last_of := PySem.W.mg_of X G a29,
    f__need_coder_and_row := f30, d__need_coder_and_row := _, F__need_coder_and_row := F30, b__need_coder_and_row := B30, g__need_coder_and_row := PySem.W.mg_of X G a30,
    f__state_behind_times := f31, d__state_behind_times := _, F__state_behind_times := F31, b__state_behind_times := B31, g__state_behind_times := PySem.W.mg_of X G a31,
    f__states_until_settled := f32, d__states_until_settled := _, F__states_until_settled := F32, b__states_until_settled := B32, g__states_until_settled := PySem.W.mg_of X G a32,
    f__states_until_place_rests := f33, d__states_until_place_rests := _, F__states_until_place_rests := F33, b__states_until_place_rests := B33, g__states_until_place_rests := PySem.W.mg_of X G a33,
    f__levels_until_settled := f34, d__levels_until_settled := _, F__levels_until_settled := F34, b__levels_until_settled := B34, g__levels_until_settled := PySem.W.mg_of X G a34,
    f__level_behind_once := f35, d__level_behind_once := _, F__level_behind_once := F35, b__level_behind_once := B35, g__level_behind_once := PySem.W.mg_of X G a35,
    f__law_begun := f36, d__law_begun := _, F__law_begun := F36, b__law_begun := B36, g__law_begun := PySem.W.mg_of X G a36,
    f__law_next := f37, d__law_next := _, F__law_next := F37, b__law_next := B37, g__law_next := PySem.W.mg_of X G a37,
    f__law_coder := f38, d__law_coder := _, F__law_coder := F38, b__law_coder := B38, g__law_coder := PySem.W.mg_of X G a38,
    f__law_row := f39, d__law_row := _, F__law_row := F39, b__law_row := B39, g__law_row := PySem.W.mg_of X G a39,
    f_law := fa, d_law := _, F_law := F40, b_law := B40, g_law := hfa,
    z_bool := PySem.W.mg_none_of X G z_bool,
    z_enumerate := PySem.W.mg_none_of X G z_enumerate,
    z_int := PySem.W.mg_none_of X G z_int,
    z_isinstance := PySem.W.mg_none_of X G z_isinstance,
    z_len := PySem.W.mg_none_of X G z_len,
    z_list := PySem.W.mg_none_of X G z_list,
    z_max := PySem.W.mg_none_of X G z_max,
    z_min := PySem.W.mg_none_of X G z_min,
    z_range := PySem.W.mg_none_of X G z_range,
    z_repr := PySem.W.mg_none_of X G z_repr,
    z_set := PySem.W.mg_none_of X G z_set,
    z_sorted := PySem.W.mg_none_of X G z_sorted,
    z_sum := PySem.W.mg_none_of X G z_sum,
    z_tuple := PySem.W.mg_none_of X G z_tuple,
    t_MOST_CODES := tMC, g_MOST_CODES := PySem.W.mg_of X G mc }
  exact ⟨_, fun s v => .of_eq rfl, fun base _ _ => ok_law T⟩
end My
open PySem PySem.W PyProof.Rows
set_option maxRecDepth 100000 in
set_option maxHeartbeats 0 in
theorem PySem.Challenge.cw_stepsound_k09_whole_maps_joined_holds : PySem.Challenge.rw_stepsound_k09_whole_maps_joined.Holds := by
  w_on; o_law; k_head; (case hw => w_witness2)
  k_fill
  refine My.walk_ofG (l := PySem.Challenge.rw_stepsound_k09_whole_maps_joined) (n := 63) (k := 14) (x := "script") (sp := fun K => My.sp_law (K := K)) rfl (by decide) rfl ⟨rfl, by decide, by decide⟩ (fun w h Y => PySem.W.kIn_of Y) ?F (fun K H a ns hl _ hS => ⟨a, ns, rfl, hS, hl, fun _ => rfl⟩)
  case F =>
    intro w mg fa h KX G hmg
    refine' My.all_mk KX G hmg ?a0 ?l0 ?c0 ?k0 ?a1 ?l1 ?c1 ?k1 ?a2 ?l2 ?c2 ?k2 ?a3 ?l3 ?c3 ?k3 ?a4 ?l4 ?c4 ?k4 ?a5 ?l5 ?c5 ?k5 ?a6 ?l6 ?c6 ?k6 ?a7 ?l7 ?c7 ?k7 ?a8 ?l8 ?c8 ?k8 ?a9 ?l9 ?c9 ?k9 ?a10 ?l10 ?c10 ?k10 ?a11 ?l11 ?c11 ?k11 ?a12 ?l12 ?c12 ?k12 ?a13 ?l13 ?c13 ?k13 ?a14 ?l14 ?c14 ?k14 ?a15 ?l15 ?c15 ?k15 ?a16 ?l16 ?c16 ?k16 ?a17 ?l17 ?c17 ?k17 ?a18 ?l18 ?c18 ?k18 ?a19 ?l19 ?c19 ?k19 ?a20 ?l20 ?c20 ?k20 ?a21 ?l21 ?c21 ?k21 ?a22 ?l22 ?c22 ?k22 ?a23 ?l23 ?c23 ?k23 ?a24 ?l24 ?c24 ?k24 ?a25 ?l25 ?c25 ?k25 ?a26 ?l26 ?c26 ?k26 ?a27 ?l27 ?c27 ?k27 ?a28 ?l28 ?c28 ?k28 ?a29 ?l29 ?c29 ?k29 ?n29 ?t29 ?a30 ?l30 ?c30 ?k30 ?a31 ?l31 ?c31 ?k31 ?a32 ?l32 ?c32 ?k32 ?a33 ?l33 ?c33 ?k33 ?a34 ?l34 ?c34 ?k34 ?a35 ?l35 ?c35 ?k35 ?a36 ?l36 ?c36 ?k36 ?a37 ?l37 ?c37 ?k37 ?a38 ?l38 ?c38 ?k38 ?a39 ?l39 ?c39 ?k39 ?a40 ?l40 ?c40 ?k40 ?z_bool ?z_enumerate ?z_int ?z_isinstance ?z_len ?z_list ?z_max ?z_min ?z_range ?z_repr ?z_set ?z_sorted ?z_sum ?z_tuple ?mc
    (case a0 => k_is)
    (case l0 => k_is)
    (case c0 => k_is)
    (case k0 => k_is)
    (case a1 => k_is)
    (case l1 => k_is)
    (case c1 => k_is)
    (case k1 => k_is)
    (case a2 => k_is)
    (case l2 => k_is)
    (case c2 => k_is)
    (case k2 => k_is)
    (case a3 => k_is)
    (case l3 => k_is)
    (case c3 => k_is)
    (case k3 => k_is)
    (case a4 => k_is)
    (case l4 => k_is)
    (case c4 => k_is)
    (case k4 => k_is)
    (case a5 => k_is)
    (case l5 => k_is)
    (case c5 => k_is)
    (case k5 => k_is)
    (case a6 => k_is)
    (case l6 => k_is)
    (case c6 => k_is)
    (case k6 => k_is)
    (case a7 => k_is)
    (case l7 => k_is)
    (case c7 => k_is)
    (case k7 => k_is)
    (case a8 => k_is)
    (case l8 => k_is)
    (case c8 => k_is)
    (case k8 => k_is)
    (case a9 => k_is)
    (case l9 => k_is)
    (case c9 => k_is)
    (case k9 => k_is)
    (case a10 => k_is)
    (case l10 => k_is)
    (case c10 => k_is)
    (case k10 => k_is)
    (case a11 => k_is)
    (case l11 => k_is)
    (case c11 => k_is)
    (case k11 => k_is)
    (case a12 => k_is)
    (case l12 => k_is)
    (case c12 => k_is)
    (case k12 => k_is)
    (case a13 => k_is)
    (case l13 => k_is)
    (case c13 => k_is)
    (case k13 => k_is)
    (case a14 => k_is)
    (case l14 => k_is)
    (case c14 => k_is)
    (case k14 => k_is)
    (case a15 => k_is)
    (case l15 => k_is)
    (case c15 => k_is)
    (case k15 => k_is)
    (case a16 => k_is)
    (case l16 => k_is)
    (case c16 => k_is)
    (case k16 => k_is)
    (case a17 => k_is)
    (case l17 => k_is)
    (case c17 => k_is)
    (case k17 => k_is)
    (case a18 => k_is)
    (case l18 => k_is)
    (case c18 => k_is)
    (case k18 => k_is)
    (case a19 => k_is)
    (case l19 => k_is)
    (case c19 => k_is)
    (case k19 => k_is)
    (case a20 => k_is)
    (case l20 => k_is)
    (case c20 => k_is)
    (case k20 => k_is)
    (case a21 => k_is)
    (case l21 => k_is)
    (case c21 => k_is)
    (case k21 => k_is)
    (case a22 => k_is)
    (case l22 => k_is)
    (case c22 => k_is)
    (case k22 => k_is)
    (case a23 => k_is)
    (case l23 => k_is)
    (case c23 => k_is)
    (case k23 => k_is)
    (case a24 => k_is)
    (case l24 => k_is)
    (case c24 => k_is)
    (case k24 => k_is)
    (case a25 => k_is)
    (case l25 => k_is)
    (case c25 => k_is)
    (case k25 => k_is)
    (case a26 => k_is)
    (case l26 => k_is)
    (case c26 => k_is)
    (case k26 => k_is)
    (case a27 => k_is)
    (case l27 => k_is)
    (case c27 => k_is)
    (case k27 => k_is)
    (case a28 => k_is)
    (case l28 => k_is)
    (case c28 => k_is)
    (case k28 => k_is)
    (case a29 => k_is)
    (case l29 => k_is)
    (case c29 => k_is)
    (case k29 => k_is)
    (case n29 => k_is)
    (case t29 => k_is)
    (case a30 => k_is)
    (case l30 => k_is)
    (case c30 => k_is)
    (case k30 => k_is)
    (case a31 => k_is)
    (case l31 => k_is)
    (case c31 => k_is)
    (case k31 => k_is)
    (case a32 => k_is)
    (case l32 => k_is)
    (case c32 => k_is)
    (case k32 => k_is)
    (case a33 => k_is)
    (case l33 => k_is)
    (case c33 => k_is)
    (case k33 => k_is)
    (case a34 => k_is)
    (case l34 => k_is)
    (case c34 => k_is)
    (case k34 => k_is)
    (case a35 => k_is)
    (case l35 => k_is)
    (case c35 => k_is)
    (case k35 => k_is)
    (case a36 => k_is)
    (case l36 => k_is)
    (case c36 => k_is)
    (case k36 => k_is)
    (case a37 => k_is)
    (case l37 => k_is)
    (case c37 => k_is)
    (case k37 => k_is)
    (case a38 => k_is)
    (case l38 => k_is)
    (case c38 => k_is)
    (case k38 => k_is)
    (case a39 => k_is)
    (case l39 => k_is)
    (case c39 => k_is)
    (case k39 => k_is)
    (case a40 => k_is)
    (case l40 => k_is)
    (case c40 => k_is)
    (case k40 => k_is)
    (case z_bool => k_is)
    (case z_enumerate => k_is)
    (case z_int => k_is)
    (case z_isinstance => k_is)
    (case z_len => k_is)
    (case z_list => k_is)
    (case z_max => k_is)
    (case z_min => k_is)
    (case z_range => k_is)
    (case z_repr => k_is)
    (case z_set => k_is)
    (case z_sorted => k_is)
    (case z_sum => k_is)
    (case z_tuple => k_is)
    (case mc => k_is)



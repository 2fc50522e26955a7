package tests

import (
	"fmt"
	"math/rand/v2"
	"slices"
	"testing"

	"loop.example/g03221/impl"
)

// checkNoSystem: for a system that is not valid, there are zero values.
func checkNoSystem(t *testing.T, c impl.Classes, label string) {
	t.Helper()
	for _, k := range typesUpTo(1) {
		p, ok := impl.TypePermutation(c, k)
		expect(t, !ok && len(p) == 0, true, "TypePermutation %v: %s", k, label)
		expect(t, impl.AllowsType(c, k), false, "AllowsType %v: %s", k, label)
	}
	for n := range 5 {
		expect(t, len(impl.AllowedTypes(c, n)), 0, "AllowedTypes %d: %s", n, label)
	}
	group, ok := impl.GroupOf(c)
	expect(t, !ok && len(group) == 0, true, "GroupOf: %s", label)
	expect(t, impl.IsRegular(c), false, "IsRegular: %s", label)
	expect(t, impl.ForbidsSiblings(c), false, "ForbidsSiblings: %s", label)
	for _, p := range [][]int{nil, {0}, {1, 0}, c.Wife, c.Child, newChance(124).Perm(len(c.Wife)), newChance(125).Perm(len(c.Child))} {
		d, ok := impl.RelabelClasses(c, p)
		expect(t, !ok && isZeroSystem(d), true, "RelabelClasses: %s", label)
	}
	d, ok := impl.CanonicalClasses(c)
	expect(t, !ok && isZeroSystem(d), true, "CanonicalClasses: %s", label)
	expect(t, impl.SameClasses(c, c), false, "SameClasses: %s", label)
	for _, good := range []impl.Classes{{Wife: []int{0}, Child: []int{0}}, impl.SampleClasses("moieties"), impl.SampleClasses("kariera")} {
		expect(t, impl.SameClasses(c, good) || impl.SameClasses(good, c), false, "SameClasses: %s", label)
		for _, pair := range [][2]impl.Classes{{c, good}, {good, c}, {c, c}} {
			d, ok := impl.ProductClasses(pair[0], pair[1])
			expect(t, !ok && isZeroSystem(d), true, "ProductClasses: %s", label)
		}
	}
}

func TestP13SystemsThatAreNotValid(t *testing.T) {
	for label, c := range notSystems() {
		checkNoSystem(t, c, label)
	}
}

func TestP13ClassesByTypesThatAreNotValid(t *testing.T) {
	for label, k := range notTypes() {
		for _, c := range []impl.Classes{system(t, "0 0"), system(t, "120 102"), impl.SampleClasses("kariera"), {}} {
			p, ok := impl.TypePermutation(c, k)
			expect(t, !ok && len(p) == 0, true, "TypePermutation: %s", label)
			expect(t, impl.AllowsType(c, k), false, "AllowsType: %s", label)
		}
	}
}

func roomySystem(c impl.Classes) impl.Classes {
	return impl.Classes{Wife: roomy(c.Wife, 77), Child: roomy(c.Child, 77)}
}

// systemWithRoom shows a system and the room behind its lists.
func systemWithRoom(c impl.Classes) string {
	return fmt.Sprint(c.Wife, c.Child, c.Wife[:cap(c.Wife)], c.Child[:cap(c.Child)])
}

// askClasses gives two systems, a type and two lists to all functions, and returns the lists that come out, and what else comes out.
func askClasses(c impl.Classes, d impl.Classes, k impl.KinType, p []int, q []int) ([][]int, string) {
	lists := [][]int{impl.InversePermutation(p), impl.InversePermutation(q), impl.ComposePermutations(p, q), impl.ComposePermutations(p, p)}
	answers := []any{impl.IsPermutation(p), impl.IsClasses(c), impl.IsRegular(c), impl.ForbidsSiblings(c), impl.AllowsType(c, k), impl.SameClasses(c, d)}
	byType, ok := impl.TypePermutation(c, k)
	lists, answers = append(lists, byType), append(answers, ok)
	for _, plain := range []impl.KinType{{}, {Ego: impl.Man, Steps: []impl.Step{{Kind: impl.StepWife}}}, {Ego: impl.Man, Steps: []impl.Step{{Kind: impl.StepSon}}}} {
		list, _ := impl.TypePermutation(c, plain)
		lists = append(lists, list)
	}
	group, ok := impl.GroupOf(c)
	lists, answers = append(lists, group...), append(answers, ok)
	relabeled, isRelabeled := impl.RelabelClasses(c, p)
	canonical, isCanonical := impl.CanonicalClasses(c)
	product, isProduct := impl.ProductClasses(c, d)
	answers = append(answers, isRelabeled, isCanonical, isProduct)
	for _, made := range []impl.Classes{relabeled, canonical, product, impl.SampleClasses("kariera"), impl.SampleClasses("kariera"), impl.SampleClasses("circle"), impl.SampleClasses("moieties")} {
		lists = append(lists, made.Wife, made.Child)
	}
	for _, made := range slices.Concat(impl.AllRegular(1), impl.AllRegular(3)) {
		lists = append(lists, made.Wife, made.Child)
	}
	return lists, fmt.Sprint(answers...)
}

func TestP13SystemsAreKept(t *testing.T) {
	r := newChance(126)
	check := func(c impl.Classes, d impl.Classes, p []int, label string) {
		t.Helper()
		c, d, p = roomySystem(c), roomySystem(d), roomy(p, 77)
		q, k := roomy(r.Perm(len(p)), 77), roomyType(chanceType(r, r.IntN(5)))
		all := func() string {
			return systemWithRoom(c) + systemWithRoom(d) + fmt.Sprint(p[:cap(p)], q[:cap(q)], k, k.Steps[:cap(k.Steps)])
		}
		before := all()
		askClasses(c, d, k, p, q)
		impl.AllowedTypes(c, 2)
		expect(t, all() == before, true, "arguments and the room behind them: %s", label)
	}
	for _, c := range someSystems(t, r, 60) {
		check(c, chanceSystem(r, 1+r.IntN(4)), r.Perm(len(c.Wife)), systemText(c))
	}
	for label, c := range notSystems() {
		check(c, system(t, "10 01"), c.Wife, label)
		check(system(t, "10 01"), c, c.Child, label)
	}
}

// writeLists writes marks of its own into each list, with the room behind it, and tells whether all of them are found again.
func writeLists(lists [][]int) bool {
	for i, list := range lists {
		mark(list, 100+i)
	}
	for i, list := range lists {
		if !hasMark(list, 100+i) {
			return false
		}
	}
	return true
}

func TestP13SystemsAreNew(t *testing.T) {
	r := newChance(127)
	for _, c := range someSystems(t, r, 60) {
		d, k := chanceSystem(r, 1+r.IntN(4)), chanceType(r, r.IntN(4))
		p, q := r.Perm(len(c.Wife)), r.Perm(len(c.Wife))
		before := fmt.Sprint(c, d, k, p, q)
		lists, answers := askClasses(c, d, k, p, q)
		want := fmt.Sprint(lists)
		expect(t, writeLists(lists), true, "results that share no memory, for %s", before)
		clearOuter(c)
		expect(t, fmt.Sprint(c, d, k, p, q), before, "the arguments after the results were changed")
		again, answersAgain := askClasses(c, d, k, p, q)
		expect(t, fmt.Sprint(again), want, "the results after others were changed")
		expect(t, answersAgain, answers, "the answers after others were changed")
	}
}

// clearOuter removes everything from the lists of lists that come out.
func clearOuter(c impl.Classes) {
	group, _ := impl.GroupOf(c)
	clear(group[:cap(group)])
	for n := 1; n <= 4; n++ {
		systems := impl.AllRegular(n)
		clear(systems[:cap(systems)])
	}
	types := impl.AllowedTypes(c, 2)
	clear(types[:cap(types)])
}

func TestP13AllowedTypesAreNew(t *testing.T) {
	for _, c := range []impl.Classes{impl.SampleClasses("kariera"), system(t, "0 0")} {
		want := fmt.Sprint(impl.AllowedTypes(c, 3))
		lists := [][]impl.Step{}
		for _, k := range slices.Concat(impl.AllowedTypes(c, 3), impl.AllowedTypes(c, 3)) {
			lists = append(lists, k.Steps)
		}
		expect(t, writeSteps(lists), true, "types that share no memory")
		expect(t, fmt.Sprint(impl.AllowedTypes(c, 3)), want, "AllowedTypes after others were changed")
	}
}

func TestP13SystemsAreTheSameEachTime(t *testing.T) {
	r := newChance(128)
	for _, c := range someSystems(t, r, 60) {
		d, k := chanceSystem(r, 1+r.IntN(4)), chanceType(r, r.IntN(4))
		p, q := r.Perm(len(c.Wife)), r.Perm(len(c.Wife))
		lists, answers := askClasses(c, d, k, p, q)
		for range 3 {
			again, answersAgain := askClasses(roomySystem(c), roomySystem(d), roomyType(k), roomy(p, 77), roomy(q, 77))
			expect(t, again, lists, "lists")
			expect(t, answersAgain, answers, "answers")
		}
	}
}

// junkList is nearly a permutation, or not at all.
func junkList(r *rand.Rand, n int) []int {
	numbers := []int{lowest, lowest + 1, -2, -1, 0, 1, 2, 7, 8, 9, 63, 64, highest - 1, highest}
	p := r.Perm(n)
	for i := range p {
		if r.IntN(20) == 0 {
			p[i] = numbers[r.IntN(len(numbers))]
		}
	}
	if r.IntN(20) == 0 {
		p = append(p, n)
	}
	return p
}

func junkSystem(r *rand.Rand) impl.Classes {
	n := r.IntN(10)
	return impl.Classes{Wife: junkList(r, n), Child: junkList(r, n)}
}

// TestP13SystemsNoPanic gives functions systems, types, lists and numbers that are far from valid.
func TestP13SystemsNoPanic(t *testing.T) {
	r := newChance(129)
	count := map[bool]int{}
	for range 2000 {
		c, d, k := junkSystem(r), junkSystem(r), junkType(r)
		p, q := junkList(r, len(c.Wife)), junkList(r, len(c.Wife))
		want := wantClasses(c)
		count[want]++
		expect(t, impl.IsClasses(c), want, "IsClasses %v", c)
		checkClassesBy(t, c, k)
		checkClassesBy(t, c, chanceType(r, r.IntN(4)))
		relabeled, ok := impl.RelabelClasses(c, p)
		expect(t, ok, want && len(p) == len(c.Wife) && wantPermutation(p), "RelabelClasses %v by %v", c, p)
		if ok {
			expect(t, isSameSystem(relabeled, wantRelabeled(c, p)), true, "RelabelClasses %v by %v", c, p)
		}
		canonical, ok := impl.CanonicalClasses(c)
		expect(t, ok, want && len(c.Wife) <= 5, "CanonicalClasses %v", c)
		expect(t, ok == wantClasses(canonical) && ok == !isZeroSystem(canonical), true, "CanonicalClasses %v", c)
		product, ok := impl.ProductClasses(c, d)
		expect(t, ok, want && wantClasses(d) && len(c.Wife)*len(d.Wife) <= 8, "ProductClasses %v and %v", c, d)
		expect(t, ok == wantClasses(product) && ok == !isZeroSystem(product), true, "ProductClasses %v and %v", c, d)
		expect(t, len(impl.InversePermutation(p)) > 0, len(p) > 0 && wantPermutation(p), "InversePermutation %v", p)
		composed := len(p) > 0 && len(p) == len(q) && wantPermutation(p) && wantPermutation(q)
		expect(t, len(impl.ComposePermutations(p, q)) > 0, composed, "ComposePermutations %v %v", p, q)
		impl.AllowedTypes(c, r.IntN(5)-1)
		impl.ForbidsSiblings(c)
		impl.IsRegular(c)
		group, ok := impl.GroupOf(c)
		expect(t, ok && want || len(group) == 0, true, "GroupOf %v", c)
	}
	if count[true] < 300 || count[false] < 300 {
		t.Errorf("valid or not: %v", count)
	}
}

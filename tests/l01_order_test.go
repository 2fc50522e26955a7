package tests

import (
	"math/rand/v2"
	"slices"
	"testing"

	"loop.example/g03221/impl"
)

func TestP13RenamePeople(t *testing.T) {
	f := parse(t, "man a - - 0 -\nwoman b - - 0 -\nman c a b 5 -\nunion a b 3 -\n")
	g, ok := impl.RenamePeople(f, []string{"b", "c", "a"})
	expect(t, ok, true, "new names")
	expect(t, impl.FormatFamily(g), "man b - - 0 -\nwoman c - - 0 -\nman a b c 5 -\nunion b c 3 -\n", "the names")
	g, ok = impl.RenamePeople(f, []string{"a", "b", "c"})
	expect(t, ok && impl.EqualFamilies(f, g), true, "the same names")
	for _, names := range [][]string{nil, {"a", "b"}, {"a", "b", "c", "d"}, {"a", "b", "a"}, {"a", "b", ""}, {"a", "b", "C"}, {"a", "b", "-"}, {"a", "b", "abcdefghijklm"}} {
		g, ok := impl.RenamePeople(f, names)
		expect(t, !ok && isZeroFamily(g), true, "names %q", names)
	}
	_, ok = impl.RenamePeople(impl.Family{}, nil)
	expect(t, ok, true, "no persons and no names")
	_, ok = impl.RenamePeople(parentsAnd(func(f *impl.Family) { f.People[0].Name = "" }), []string{"a", "b", "c"})
	expect(t, ok, false, "a family that is not valid, though the result would be")
}

func TestP13PermutePeople(t *testing.T) {
	f := parse(t, "man a - - 0 -\nwoman b - - 0 -\nwoman x - - 0 -\nman c a b 5 -\nunion a x 4 -\nunion a b 3 -\n")
	g, ok := impl.PermutePeople(f, []int{2, 1, 0, 3})
	expect(t, ok, true, "an order")
	expect(t, impl.FormatFamily(g), "woman x - - 0 -\nwoman b - - 0 -\nman a - - 0 -\nman c a b 5 -\nunion a x 4 -\nunion a b 3 -\n", "the order")
	g, ok = impl.PermutePeople(f, []int{1, 0, 3, 2})
	expect(t, ok, true, "another order")
	expect(t, impl.FormatFamily(g), "woman b - - 0 -\nman a - - 0 -\nman c a b 5 -\nwoman x - - 0 -\nunion a x 4 -\nunion a b 3 -\n", "the other order")
	g, ok = impl.PermutePeople(f, []int{1, 2, 0, 3})
	expect(t, ok, true, "an order that is not its own inverse")
	expect(t, impl.FormatFamily(g), "woman b - - 0 -\nwoman x - - 0 -\nman a - - 0 -\nman c a b 5 -\nunion a x 4 -\nunion a b 3 -\n", "the order that is not its own inverse")
	for _, order := range [][]int{nil, {0, 1, 2}, {0, 1, 2, 3, 4}, {0, 1, 2, 2}, {1, 1, 2, 3}, {0, 1, 2, 4}, {-1, 1, 2, 3}, {0, 1, 2, highest}, {lowest, 1, 2, 3}, {3, 0, 1, 2}, {0, 3, 1, 2}} {
		g, ok := impl.PermutePeople(f, order)
		expect(t, !ok && isZeroFamily(g), true, "order %v", order)
	}
	_, ok = impl.PermutePeople(impl.Family{}, nil)
	expect(t, ok, true, "no persons")
	_, ok = impl.PermutePeople(impl.Family{}, []int{0})
	expect(t, ok, false, "no persons, but an index")
	later := impl.Family{People: []impl.Person{{Name: "c", Sex: 1, Father: 1, Mother: -1, Born: 5, Died: -1}, {Name: "a", Sex: 1, Father: -1, Mother: -1, Born: 0, Died: -1}}}
	_, ok = impl.PermutePeople(later, []int{1, 0})
	expect(t, ok, false, "a family that is not valid, though the result would be")
}

// What answers has at which place; all the others are lists of persons too.
const (
	depthAnswer    = 0
	childrenAnswer = 2
	halfAnswer     = 4
	yearsAnswer    = 6
)

// answers has everything that the functions say of a person, without names.
func answers(f impl.Family, p int) [][]int {
	years := []int{}
	married := [][]int{}
	for year := -1; year < 80; year++ {
		if impl.IsAlive(f, p, year) {
			years = append(years, year)
		}
		married = append(married, impl.MarriedAt(f, p, year))
	}
	lists := [][]int{{impl.DepthOf(f, p)}, impl.ParentsOf(f, p), impl.ChildrenOf(f, p), impl.FullSiblings(f, p), impl.HalfSiblings(f, p), impl.PartnersOf(f, p), years}
	return append(lists, married...)
}

func TestP2NamesDoNotMatter(t *testing.T) {
	r := newChance(15)
	for range 60 {
		f := chanceFamily(r)
		names := make([]string, len(f.People))
		for i, k := range r.Perm(len(f.People)) {
			names[i] = f.People[k].Name
		}
		g, ok := impl.RenamePeople(f, names)
		if !ok {
			t.Fatalf("RenamePeople refuses %q for %v", names, f)
		}
		for p := range f.People {
			expect(t, answers(g, p), answers(f, p), "person %d of %v and %v", p, f, g)
			for q := range f.People {
				expect(t, impl.IsElder(g, p, q), impl.IsElder(f, p, q), "IsElder %d %d of %v and %v", p, q, f, g)
			}
			found, ok := impl.FindPerson(g, names[p])
			expect(t, ok && found == p, true, "FindPerson %s of %v", names[p], g)
		}
		checkEnds(t, f, g)
		back, ok := impl.RenamePeople(g, namesOf(f))
		expect(t, ok && impl.EqualFamilies(back, f), true, "the old names of %v", f)
	}
}

func checkEnds(t *testing.T, f impl.Family, g impl.Family) {
	t.Helper()
	for k := range f.Unions {
		a, endedA := impl.UnionEnd(f, k)
		b, endedB := impl.UnionEnd(g, k)
		expect(t, a == b && endedA == endedB, true, "UnionEnd %d of %v and %v", k, f, g)
	}
}

func namesOf(f impl.Family) []string {
	var names []string
	for _, p := range f.People {
		names = append(names, p.Name)
	}
	return names
}

func TestP2OrderDoesNotMatter(t *testing.T) {
	r := newChance(16)
	for range 60 {
		f := chanceFamily(r)
		// Persons who are all born in different years are elder in each order.
		spread := r.IntN(2) == 0
		if spread {
			f = spreadBirths(f)
		}
		order := parentsFirst(r, f)
		g, ok := impl.PermutePeople(f, order)
		if !ok {
			t.Fatalf("PermutePeople refuses %v for %v", order, f)
		}
		checkMoved(t, f, g, order, spread)
		checkEnds(t, f, g)
		checkWrongOrder(t, r, f)
	}
}

// spreadBirths returns a family of the same parents, without unions, in which no two are born in one year.
func spreadBirths(f impl.Family) impl.Family {
	g := copyOf(f)
	g.Unions = nil
	for i := range g.People {
		g.People[i].Born, g.People[i].Died = 30+i, -1
	}
	return g
}

func checkMoved(t *testing.T, f impl.Family, g impl.Family, order []int, exact bool) {
	t.Helper()
	places := make([]int, len(order))
	for k, i := range order {
		places[i] = k
	}
	for k, i := range order {
		expect(t, g.People[k].Name, f.People[i].Name, "the person %d", k)
		before, after := answers(f, i), answers(g, k)
		for n := range before {
			if n == depthAnswer || n == yearsAnswer {
				continue
			}
			for j, q := range before[n] {
				before[n][j] = places[q]
			}
			if !exact && n >= childrenAnswer && n <= halfAnswer {
				slices.Sort(before[n])
				slices.Sort(after[n])
			}
		}
		expect(t, after, before, "person %d of %v in the order %v", i, f, order)
		for q := range f.People {
			if f.People[i].Born != f.People[q].Born {
				expect(t, impl.IsElder(g, k, places[q]), impl.IsElder(f, i, q), "IsElder %d %d of %v", i, q, f)
			}
		}
	}
	back, ok := impl.PermutePeople(g, places)
	expect(t, ok && impl.EqualFamilies(back, f), true, "the old order of %v", f)
}

// checkWrongOrder lists children before their parents.
func checkWrongOrder(t *testing.T, r *rand.Rand, f impl.Family) {
	t.Helper()
	order := r.Perm(len(f.People))
	want := true
	for k, i := range order {
		for _, q := range wantParents(f, i) {
			want = want && slices.Index(order, q) < k
		}
	}
	g, ok := impl.PermutePeople(f, order)
	expect(t, ok, want, "the order %v of %v", order, f)
	expect(t, impl.IsFamily(g) && (ok || isZeroFamily(g)), true, "the family in the order %v of %v", order, f)
}

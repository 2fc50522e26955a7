package tests

import (
	"fmt"
	"math/rand/v2"
	"slices"
	"testing"

	"loop.example/g03221/impl"
)

// classesBy returns the permutation of a type that has to have one.
func classesBy(t *testing.T, c impl.Classes, k impl.KinType) []int {
	t.Helper()
	p, ok := impl.TypePermutation(c, k)
	if !ok || len(p) != len(c.Wife) || !impl.IsPermutation(p) || !wantPermutation(p) {
		t.Fatalf("TypePermutation %v by %s: %v, %v", k, systemText(c), p, ok)
	}
	return p
}

// joinable returns two types, of which the second can begin where the first one ends.
func joinable(r *rand.Rand) (impl.KinType, impl.KinType) {
	k := chanceType(r, r.IntN(5))
	for wantEgo(k) == 0 {
		k = chanceType(r, r.IntN(5))
	}
	u := chanceType(r, r.IntN(5))
	for u.Ego != wantSex(k) || !wantType(u) {
		u = chanceType(r, r.IntN(5))
	}
	return k, u
}

// checkJoinedClasses: the classes by the joined type are those by the one and then by the other.
func checkJoinedClasses(t *testing.T, c impl.Classes, k impl.KinType, u impl.KinType) {
	t.Helper()
	joined, ok := impl.JoinTypes(k, u)
	if !ok {
		t.Fatalf("JoinTypes refuses %v and %v", k, u)
	}
	p, q := classesBy(t, c, k), classesBy(t, c, u)
	got := classesBy(t, c, joined)
	if !slices.Equal(got, impl.ComposePermutations(p, q)) {
		t.Fatalf("%v and %v lead by %v and %v, but joined by %v, in %s", k, u, p, q, got, systemText(c))
	}
	for x := range got {
		if got[x] != q[p[x]] {
			t.Fatalf("%v and %v lead from %d to %d and on to %d, but joined to %d, in %s", k, u, x, p[x], q[p[x]], got[x], systemText(c))
		}
	}
}

func TestP6JoinedTypesCompose(t *testing.T) {
	r := newChance(101)
	for _, c := range someSystems(t, r, 60) {
		for range 100 {
			k, u := joinable(r)
			checkJoinedClasses(t, c, k, u)
		}
	}
}

// TestP6ShortTypesCompose joins all pairs of short types, also those without steps and without an Ego.
func TestP6ShortTypesCompose(t *testing.T) {
	types := slices.DeleteFunc(typesUpTo(1), func(k impl.KinType) bool { return len(k.Steps) > 0 && wantEgo(k) == 0 })
	for _, c := range []impl.Classes{system(t, "1230 2013"), system(t, "120 102"), impl.SampleClasses("circle")} {
		count := 0
		for _, k := range types {
			for _, u := range types {
				if _, ok := impl.JoinTypes(k, u); ok {
					count++
					checkJoinedClasses(t, c, k, u)
				}
			}
		}
		if count < 200 {
			t.Errorf("%d pairs are joined", count)
		}
	}
}

// checkReversedClasses: the reverse of a type leads back to each class.
func checkReversedClasses(t *testing.T, c impl.Classes, k impl.KinType) {
	t.Helper()
	back, ok := impl.ReverseType(k)
	if !ok {
		t.Fatalf("ReverseType refuses %v", k)
	}
	there, here := classesBy(t, c, k), classesBy(t, c, back)
	if !slices.Equal(here, impl.InversePermutation(there)) {
		t.Fatalf("%v leads by %v, its reverse by %v, in %s", k, there, here, systemText(c))
	}
	for x := range there {
		if here[there[x]] != x {
			t.Fatalf("%v leads from %d to %d, its reverse from there to %d, in %s", k, x, there[x], here[there[x]], systemText(c))
		}
	}
}

func TestP6ReversedTypesInvert(t *testing.T) {
	r := newChance(102)
	short := typesUpTo(1)
	for _, c := range someSystems(t, r, 60) {
		for _, k := range short {
			if len(k.Steps) == 0 || wantEgo(k) != 0 {
				checkReversedClasses(t, c, k)
			}
		}
		for range 100 {
			if k := chanceType(r, r.IntN(9)); len(k.Steps) == 0 || wantEgo(k) != 0 {
				checkReversedClasses(t, c, k)
			}
		}
	}
}

// TestP6PermutationsAreOfTheGroup: the group has the permutations of all types, and what is composed of them.
func TestP6PermutationsAreOfTheGroup(t *testing.T) {
	r := newChance(103)
	for _, c := range someSystems(t, r, 60) {
		group, ok := impl.GroupOf(c)
		if !ok {
			continue
		}
		known := map[string]bool{}
		for _, p := range group {
			known[fmt.Sprint(p)] = true
		}
		expect(t, len(known), len(group), "different permutations in the group of %s", systemText(c))
		for range 50 {
			k, u := joinable(r)
			p, q := classesBy(t, c, k), classesBy(t, c, u)
			expect(t, known[fmt.Sprint(p)] && known[fmt.Sprint(q)], true, "%v and %v in the group of %s", p, q, systemText(c))
		}
		for range 50 {
			p, q := group[r.IntN(len(group))], group[r.IntN(len(group))]
			closed := known[fmt.Sprint(impl.ComposePermutations(p, q))] && known[fmt.Sprint(impl.InversePermutation(p))]
			expect(t, closed, true, "%v and %v, composed and inverted, in the group of %s", p, q, systemText(c))
		}
	}
}

// checkRenamed: what is said of the classes is said of them under their other names.
func checkRenamed(t *testing.T, r *rand.Rand, c impl.Classes, names []int) {
	t.Helper()
	d, ok := impl.RelabelClasses(c, names)
	if !ok || !impl.IsClasses(d) {
		t.Fatalf("RelabelClasses %s by %v: %v, %v", systemText(c), names, d, ok)
	}
	for range 20 {
		k, _ := joinable(r)
		p, q := classesBy(t, c, k), classesBy(t, d, k)
		for x := range p {
			expect(t, q[names[x]], names[p[x]], "the class by %v of %d, now %d, in %s", k, x, names[x], systemText(c))
		}
		expect(t, impl.AllowsType(d, k), impl.AllowsType(c, k), "AllowsType %v by %s and %s", k, systemText(c), systemText(d))
	}
	expect(t, impl.AllowedTypes(d, 2), impl.AllowedTypes(c, 2), "AllowedTypes of %s and %s", systemText(c), systemText(d))
	group, hasGroup := impl.GroupOf(c)
	others, hasOthers := impl.GroupOf(d)
	expect(t, len(others), len(group), "GroupOf %s and %s", systemText(c), systemText(d))
	expect(t, hasOthers, hasGroup, "GroupOf %s and %s", systemText(c), systemText(d))
	expect(t, impl.IsRegular(d), impl.IsRegular(c), "IsRegular %s and %s", systemText(c), systemText(d))
	expect(t, impl.ForbidsSiblings(d), impl.ForbidsSiblings(c), "ForbidsSiblings %s and %s", systemText(c), systemText(d))
	back, ok := impl.RelabelClasses(d, impl.InversePermutation(names))
	expect(t, ok && isSameSystem(back, c), true, "RelabelClasses %s there and back by %v", systemText(c), names)
	few := len(names) <= 5
	expect(t, impl.SameClasses(c, d), few, "SameClasses %s and %s", systemText(c), systemText(d))
	canonical, ok := impl.CanonicalClasses(c)
	other, otherOk := impl.CanonicalClasses(d)
	expect(t, ok == few && otherOk == few && isSameSystem(canonical, other), true, "CanonicalClasses of %s and %s", systemText(c), systemText(d))
	again, _ := impl.CanonicalClasses(canonical)
	expect(t, isSameSystem(again, canonical) && !isBeforeClasses(d, canonical), true, "%s comes first", systemText(canonical))
}

func TestP6NamesOfClassesDoNotMatter(t *testing.T) {
	r := newChance(104)
	for _, c := range someSystems(t, r, 100) {
		checkRenamed(t, r, c, r.Perm(len(c.Wife)))
	}
	for _, c := range []impl.Classes{impl.SampleClasses("kariera"), system(t, "1230 2013"), system(t, "120 102")} {
		for _, names := range allPermutations(len(c.Wife)) {
			checkRenamed(t, r, c, names)
		}
	}
}

// TestP6RegularSystemsUpToNames: each regular system is one of the list under other names, and the list has none twice.
func TestP6RegularSystemsUpToNames(t *testing.T) {
	for n := 1; n <= 4; n++ {
		list := impl.AllRegular(n)
		for i, c := range list {
			canonical, ok := impl.CanonicalClasses(c)
			expect(t, ok && isSameSystem(canonical, c) && impl.IsRegular(c), true, "%s is regular and canonical", systemText(c))
			expect(t, i == 0 || isBeforeClasses(list[i-1], c), true, "%s in its place", systemText(c))
		}
		for _, c := range allSystems(n) {
			listed := slices.ContainsFunc(list, func(d impl.Classes) bool { return impl.SameClasses(c, d) })
			expect(t, listed, impl.IsRegular(c), "%s is listed", systemText(c))
		}
	}
}

// TestP6ProductsFollowBoth: the class of a relative in a product is made of the classes in both systems.
func TestP6ProductsFollowBoth(t *testing.T) {
	r := newChance(105)
	for range 200 {
		n := 1 + r.IntN(4)
		a, b := chanceSystem(r, n), chanceSystem(r, 1+r.IntN(8/n))
		c, ok := impl.ProductClasses(a, b)
		if !ok || !impl.IsClasses(c) {
			t.Fatalf("ProductClasses %s and %s: %v, %v", systemText(a), systemText(b), c, ok)
		}
		k, _ := joinable(r)
		p, q, both := classesBy(t, a, k), classesBy(t, b, k), classesBy(t, c, k)
		m := len(q)
		for x, y := range both {
			expect(t, y, p[x/m]*m+q[x%m], "the class by %v of %d in the product of %s and %s", k, x, systemText(a), systemText(b))
		}
		expect(t, impl.AllowsType(c, k), impl.AllowsType(a, k) && impl.AllowsType(b, k), "AllowsType %v in the product of %s and %s", k, systemText(a), systemText(b))
		other, _ := impl.ProductClasses(b, a)
		expect(t, impl.SameClasses(c, other), len(both) <= 5, "SameClasses of the product of %s and %s", systemText(a), systemText(b))
	}
}

// classFamily has, in each generation, a brother and a sister of each class, who marry as the classes tell.
func classFamily(c impl.Classes, generations int) (impl.Family, []int) {
	n := len(c.Wife)
	var f impl.Family
	classes := []int{}
	add := func(sex int, class int, father int, mother int, year int) {
		name := "p" + string(rune('a'+len(classes)/20)) + string(rune('a'+len(classes)%20))
		f.People = append(f.People, impl.Person{Name: name, Sex: sex, Father: father, Mother: mother, Born: year, Died: -1})
		classes = append(classes, class)
	}
	men, women := slices.Repeat([]int{-1}, n), slices.Repeat([]int{-1}, n)
	for g := range generations {
		sons, daughters := make([]int, n), make([]int, n)
		for i := range n {
			class := c.Child[i]
			sons[class], daughters[class] = len(classes), len(classes)+1
			add(impl.Man, class, men[i], women[c.Wife[i]], 20*g)
			add(impl.Woman, class, men[i], women[c.Wife[i]], 20*g)
		}
		men, women = sons, daughters
		for i := range n {
			f.Unions = append(f.Unions, impl.Union{Man: men[i], Woman: women[c.Wife[i]], From: 20*g + 18, To: -1})
		}
	}
	return f, classes
}

// TestP6RelativesAreOfTheClass: in a family that marries by classes, all relatives are of the class that the type leads to.
func TestP6RelativesAreOfTheClass(t *testing.T) {
	r := newChance(106)
	systems := []impl.Classes{system(t, "1230 2013"), system(t, "0213 3021"), impl.SampleClasses("moieties"), impl.SampleClasses("kariera"), impl.SampleClasses("circle")}
	for _, c := range append(systems, system(t, "120 102"), chanceSystem(r, 3), chanceSystem(r, 4), system(t, "0 0")) {
		f, classes := classFamily(c, 4)
		if !impl.IsFamily(f) {
			t.Fatalf("not valid: %v", f)
		}
		reached := 0
		for _, k := range slices.Concat(impl.TypesFrom(impl.Man, 3), impl.TypesFrom(impl.Woman, 3)) {
			p := classesBy(t, c, k)
			for _, pair := range impl.PairsOf(impl.RelationFor(f, k)) {
				reached++
				if classes[pair.B] != p[classes[pair.A]] {
					t.Fatalf("%v leads from a person of %d to one of %d, not %d, by %s", k, classes[pair.A], classes[pair.B], p[classes[pair.A]], systemText(c))
				}
			}
		}
		if reached < 500 {
			t.Errorf("%d relatives are reached, by %s", reached, systemText(c))
		}
	}
}

package tests

import (
	"fmt"
	"math/rand/v2"
	"slices"
	"testing"

	"loop.example/g03221/impl"
)

func TestP9StricterLaws(t *testing.T) {
	base := impl.Law{Degree: 4, Canon: 2, Affinity: 1, Age: 16, Wives: 2, Husbands: 3}
	changes := map[string]struct {
		change   func(law *impl.Law)
		stricter bool
		laxer    bool
	}{
		"nothing":   {func(law *impl.Law) {}, true, true},
		"degree+":   {func(law *impl.Law) { law.Degree++ }, true, false},
		"degree-":   {func(law *impl.Law) { law.Degree = 0 }, false, true},
		"canon+":    {func(law *impl.Law) { law.Canon++ }, true, false},
		"canon-":    {func(law *impl.Law) { law.Canon = 0 }, false, true},
		"affinity+": {func(law *impl.Law) { law.Affinity++ }, true, false},
		"affinity-": {func(law *impl.Law) { law.Affinity-- }, false, true},
		"age+":      {func(law *impl.Law) { law.Age++ }, true, false},
		"age-":      {func(law *impl.Law) { law.Age-- }, false, true},
		"wives+":    {func(law *impl.Law) { law.Wives++ }, false, true},
		"wives-":    {func(law *impl.Law) { law.Wives-- }, true, false},
		"husbands+": {func(law *impl.Law) { law.Husbands++ }, false, true},
		"husbands-": {func(law *impl.Law) { law.Husbands-- }, true, false},
		"patriline": {func(law *impl.Law) { law.Patriline = true }, true, false},
		"matriline": {func(law *impl.Law) { law.Matriline = true }, true, false},
		"both":      {func(law *impl.Law) { law.Degree++; law.Wives++ }, false, false},
		"lines":     {func(law *impl.Law) { law.Patriline = true; law.Age-- }, false, false},
		"not valid": {func(law *impl.Law) { law.Degree = 21 }, false, false},
		"no wives":  {func(law *impl.Law) { law.Wives = 0 }, false, false},
		"no number": {func(law *impl.Law) { law.Age = -1 }, false, false},
	}
	for label, c := range changes {
		law := base
		c.change(&law)
		expect(t, impl.IsStricter(law, base), c.stricter, "IsStricter after %s", label)
		expect(t, impl.IsStricter(base, law), c.laxer, "IsStricter before %s", label)
	}
	for _, law := range notLaws() {
		expect(t, impl.IsStricter(law, law) || impl.IsStricter(law, free) || impl.IsStricter(free, law), false, "IsStricter %s", looseLawText(law))
	}
}

// TestP9StricterIsAnOrder: it is an order of the valid laws, in which the free law is the laxest one.
func TestP9StricterIsAnOrder(t *testing.T) {
	r := newChance(181)
	strictest := impl.Law{Degree: 20, Canon: 10, Affinity: 20, Age: 99, Wives: 1, Husbands: 1, Patriline: true, Matriline: true}
	count := map[bool]int{}
	for range 5000 {
		a, b := chanceLaw(r), chanceLaw(r)
		c := stricterLaw(r, a)
		d := stricterLaw(r, c)
		expect(t, impl.IsStricter(a, a) && impl.IsStricter(c, a) && impl.IsStricter(d, c) && impl.IsStricter(d, a), true, "IsStricter %v %v %v", d, c, a)
		expect(t, impl.IsStricter(a, free) && impl.IsStricter(strictest, a), true, "IsStricter %v and the laxest and the strictest law", a)
		expect(t, impl.IsStricter(a, c), a == c, "IsStricter %v %v both ways", a, c)
		for _, x := range []impl.Law{c, b} {
			expect(t, impl.IsStricter(x, b), wantStricter(x, b), "IsStricter %v %v", x, b)
			count[impl.IsStricter(x, b)]++
		}
	}
	if count[true] < 500 || count[false] < 500 {
		t.Errorf("stricter or not: %v", count)
	}
}

// isWithin: each element of the first list is one of the second.
func isWithin(list []int, other []int) bool {
	return !slices.ContainsFunc(list, func(x int) bool { return !slices.Contains(other, x) })
}

func TestP9StricterLawsHaveAllImpediments(t *testing.T) {
	r := newChance(182)
	more := 0
	for _, f := range marriageFamilies(t, r, 40) {
		for range 30 * min(1, len(f.People)) {
			lax := chanceLaw(r)
			strict := stricterLaw(r, lax)
			expect(t, impl.IsStricter(strict, lax), true, "IsStricter %v %v", strict, lax)
			a, b, year := r.IntN(len(f.People)), r.IntN(len(f.People)), chanceYear(r, f)
			few, all := impl.Impediments(f, lax, a, b, year), impl.Impediments(f, strict, a, b, year)
			label := fmt.Sprintf("%v, %s and %s, for %d and %d in %d", f, looseLawText(strict), looseLawText(lax), a, b, year)
			expect(t, isWithin(few, all), true, "Impediments %v and %v: %s", all, few, label)
			expect(t, isWithin(impl.PartnersAllowed(f, strict, a, year), impl.PartnersAllowed(f, lax, a, year)), true, "PartnersAllowed: %s", label)
			expect(t, impl.MayMarry(f, lax, a, b, year) || !impl.MayMarry(f, strict, a, b, year), true, "MayMarry: %s", label)
			more += min(1, len(all)-len(few))
		}
		lax := chanceLaw(r)
		strict, year := stricterLaw(r, lax), chanceYear(r, f)
		expect(t, impl.MostWeddings(f, strict, year) <= impl.MostWeddings(f, lax, year), true, "MostWeddings %v %v %v %d", f, strict, lax, year)
		few, all := impl.AuditUnions(f, lax), impl.AuditUnions(f, strict)
		for k := range f.Unions {
			expect(t, isWithin(few[k], all[k]), true, "AuditUnions %v %v %v", f, strict, lax)
		}
	}
	if more < 300 {
		t.Errorf("the stricter law has more impediments %d times", more)
	}
}

// joinedByChance joins unions in the order of the years, as the law allows, and returns the last year.
func joinedByChance(r *rand.Rand, f impl.Family, law impl.Law) (impl.Family, int) {
	f.Unions = nil
	year := law.Age
	for range 200 {
		year += r.IntN(2)
		p := r.IntN(len(f.People))
		allowed := impl.PartnersAllowed(f, law, p, year)
		if len(allowed) == 0 {
			continue
		}
		a, b := p, allowed[r.IntN(len(allowed))]
		if f.People[a].Sex == impl.Woman {
			a, b = b, a
		}
		g, ok := impl.JoinUnion(f, law, a, b, year)
		if ok {
			f = g
		}
		// Some unions end, so that others are allowed.
		if k := r.IntN(len(f.Unions) + 1); ok && k < len(f.Unions) && f.Unions[k].To == -1 {
			parted := copyOf(f)
			parted.Unions[k].To = year
			if impl.IsFamily(parted) {
				f = parted
			}
		}
	}
	return f, year
}

func TestP9JoinedUnionsPassTheAudit(t *testing.T) {
	r := newChance(183)
	joined := 0
	for _, f := range marriageFamilies(t, r, 40) {
		if len(f.People) == 0 {
			continue
		}
		law := chanceLaw(r)
		law.Age = min(law.Age, 20)
		g, _ := joinedByChance(r, f, law)
		joined += len(g.Unions)
		for k, list := range impl.AuditUnions(g, law) {
			expect(t, len(list), 0, "the impediments %v to the union %d of %v by %s", list, k, g, looseLawText(law))
		}
		lax := chanceLaw(r)
		if impl.IsStricter(law, lax) {
			expect(t, len(slices.Concat(impl.AuditUnions(g, lax)...)), 0, "AuditUnions %v of a laxer law %v", g, lax)
		}
	}
	if joined < 500 {
		t.Errorf("%d unions are joined", joined)
	}
}

// TestP9OtherUnionsFailTheAudit: a last union that the law does not allow has the impediments there were to it.
func TestP9OtherUnionsFailTheAudit(t *testing.T) {
	r := newChance(184)
	barred := 0
	for _, f := range marriageFamilies(t, r, 40) {
		if len(f.People) == 0 {
			continue
		}
		law := chanceLaw(r)
		law.Age = min(law.Age, 20)
		g, year := joinedByChance(r, f, law)
		for range 10 {
			a, b := r.IntN(len(f.People)), r.IntN(len(f.People))
			h := copyOf(g)
			h.Unions = append(h.Unions, impl.Union{Man: a, Woman: b, From: year, To: -1})
			if !impl.IsFamily(h) {
				continue
			}
			want := impl.Impediments(g, law, a, b, year)
			audit := impl.AuditUnions(h, law)
			expect(t, audit[len(g.Unions)], want, "AuditUnions of the last union of %v by %s", h, looseLawText(law))
			_, ok := impl.JoinUnion(g, law, a, b, year)
			expect(t, ok, len(want) == 0, "JoinUnion %v %s %d %d %d", g, looseLawText(law), a, b, year)
			barred += min(1, len(want))
		}
	}
	if barred < 100 {
		t.Errorf("%d unions are barred", barred)
	}
}

// isPaired: each pair is a man and a woman who may marry, and nobody is in two pairs.
func isPaired(f impl.Family, law impl.Law, year int, pairs [][2]int) bool {
	seen := map[int]bool{}
	for _, pair := range pairs {
		if seen[pair[0]] || seen[pair[1]] || !impl.MayMarry(f, law, pair[0], pair[1], year) {
			return false
		}
		seen[pair[0]], seen[pair[1]] = true, true
	}
	return true
}

// TestP9MostWeddings: as many pairs can be found by another way, and no more, for there are persons, as many, without one of whom no pair is.
func TestP9MostWeddings(t *testing.T) {
	r := newChance(185)
	count := map[int]int{}
	for _, f := range marriageFamilies(t, r, 60) {
		for i := range 4 {
			law, year := free, 40
			if i > 1 {
				law, year = chanceLaw(r), chanceYear(r, f)
			}
			pairs, cover := pairsAndCover(f, law, year)
			n := impl.MostWeddings(f, law, year)
			label := fmt.Sprintf("%v %s %d", f, looseLawText(law), year)
			expect(t, isPaired(f, law, year, pairs) && len(cover) == len(pairs), true, "the pairs %v and the cover %v: %s", pairs, cover, label)
			for a := range f.People {
				for _, b := range impl.PartnersAllowed(f, law, a, year) {
					expect(t, cover[a] || cover[b], true, "the cover %v has neither %d nor %d: %s", cover, a, b, label)
				}
			}
			expect(t, n, len(pairs), "MostWeddings %s", label)
			count[min(9, n)]++
		}
	}
	if count[0] < 50 || count[3] < 10 || count[9] < 30 {
		t.Errorf("weddings: %v", count)
	}
}

// pairsAndCover looks for a way from a man without a wife to a woman without a husband, breadth first, until there is none.
// The women who are found last, and the men who are not, are in each pair.
func pairsAndCover(f impl.Family, law impl.Law, year int) ([][2]int, map[int]bool) {
	husband, wife := map[int]int{}, map[int]int{}
	for {
		from := map[int]int{}
		found, queue := []int{}, []int{}
		for p, person := range f.People {
			if _, wed := wife[p]; person.Sex == impl.Man && !wed {
				queue = append(queue, p)
			}
		}
		for len(queue) > 0 && len(found) == 0 {
			man := queue[0]
			queue = queue[1:]
			for _, woman := range impl.PartnersAllowed(f, law, man, year) {
				if _, known := from[woman]; known {
					continue
				}
				from[woman] = man
				if other, wed := husband[woman]; wed {
					queue = append(queue, other)
				} else {
					found = append(found, woman)
					break
				}
			}
		}
		if len(found) == 0 {
			return coverOf(husband, from)
		}
		for woman := found[0]; ; {
			man := from[woman]
			next, wed := wife[man]
			husband[woman], wife[man] = man, woman
			if !wed {
				break
			}
			woman = next
		}
	}
}

func coverOf(husband map[int]int, found map[int]int) ([][2]int, map[int]bool) {
	pairs, cover := [][2]int{}, map[int]bool{}
	for woman, man := range husband {
		pairs = append(pairs, [2]int{man, woman})
		if _, ok := found[woman]; ok {
			cover[woman] = true
		} else {
			cover[man] = true
		}
	}
	return pairs, cover
}

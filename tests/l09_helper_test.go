package tests

import (
	"fmt"
	"math/rand/v2"
	"slices"
	"testing"

	"loop.example/g03221/impl"
)

// The functions below say again, in the plainest way, what the document says of laws and marriages.

func wantLaw(law impl.Law) bool {
	if law.Degree < 0 || law.Degree > 20 || law.Canon < 0 || law.Canon > 10 || law.Affinity < 0 || law.Affinity > 20 {
		return false
	}
	return law.Age >= 0 && law.Age <= 99 && law.Wives >= 1 && law.Wives <= 9 && law.Husbands >= 1 && law.Husbands <= 9
}

// looseLawText also writes laws that are not valid.
func looseLawText(law impl.Law) string {
	word := map[bool]string{false: "no", true: "yes"}
	return fmt.Sprintf("degree %d canon %d affinity %d age %d wives %d husbands %d patriline %s matriline %s",
		law.Degree, law.Canon, law.Affinity, law.Age, law.Wives, law.Husbands, word[law.Patriline], word[law.Matriline])
}

func wantLawText(law impl.Law) string {
	if !wantLaw(law) {
		return ""
	}
	return looseLawText(law)
}

func wantStricter(a impl.Law, b impl.Law) bool {
	if !wantLaw(a) || !wantLaw(b) {
		return false
	}
	if a.Degree < b.Degree || a.Canon < b.Canon || a.Affinity < b.Affinity || a.Age < b.Age {
		return false
	}
	if a.Wives > b.Wives || a.Husbands > b.Husbands {
		return false
	}
	return !(b.Patriline && !a.Patriline) && !(b.Matriline && !a.Matriline)
}

// stepsOf knows the steps between all persons, and nothing of lines and kinship.
func stepsOf(f impl.Family) degrees {
	d := degrees{f: f}
	for a := range f.People {
		d.up = append(d.up, nil)
		for b := range f.People {
			d.up[a] = append(d.up[a], stepsBetween(f, a, b))
		}
	}
	return d
}

// isCivil: the civil degree is at most this one.
func (d degrees) isCivil(a int, b int, degree int) bool {
	n, m, ok := d.link(a, b)
	return ok && n+m <= degree
}

// isAffine: a person other than b, who was united with a in the year at the latest, is kin of b.
func (d degrees) isAffine(a int, b int, year int, degree int) bool {
	for _, u := range d.f.Unions {
		if u.From > year {
			continue
		}
		if u.Man == a && u.Woman != b && d.isCivil(u.Woman, b, degree) {
			return true
		}
		if u.Woman == a && u.Man != b && d.isCivil(u.Man, b, degree) {
			return true
		}
	}
	return false
}

// impediments relies on the family, the law and the persons being valid.
func (d degrees) impediments(law impl.Law, a int, b int, year int) []int {
	f := d.f
	x, y := f.People[a], f.People[b]
	canon, isKin := d.canon(a, b)
	united := slices.ContainsFunc(f.Unions, func(u impl.Union) bool {
		return u.Man == a && u.Woman == b || u.Man == b && u.Woman == a
	})
	stands := map[int]bool{
		1:  x.Sex != 1 || y.Sex != 2,
		2:  x.Born > year || y.Born > year || x.Died != -1 && x.Died < year || y.Died != -1 && y.Died < year,
		3:  x.Born+law.Age > year || y.Born+law.Age > year,
		4:  len(wantPartners(f, a, year, false)) >= law.Wives,
		5:  len(wantPartners(f, b, year, false)) >= law.Husbands,
		6:  a == b || d.isAbove(a, b) || d.isAbove(b, a),
		7:  law.Degree != 0 && d.isCivil(a, b, law.Degree),
		8:  law.Canon != 0 && isKin && canon <= law.Canon,
		9:  law.Patriline && wantFounder(f, a, 1) == wantFounder(f, b, 1),
		10: law.Matriline && wantFounder(f, a, 2) == wantFounder(f, b, 2),
		11: law.Affinity != 0 && (d.isAffine(a, b, year, law.Affinity) || d.isAffine(b, a, year, law.Affinity)),
		12: united,
	}
	list := []int{}
	for number := 1; number <= 12; number++ {
		if stands[number] {
			list = append(list, number)
		}
	}
	return list
}

func (d degrees) mayMarry(law impl.Law, a int, b int, year int) bool {
	return len(d.impediments(law, a, b, year)) == 0
}

func (d degrees) partnersAllowed(law impl.Law, p int, year int) []int {
	return d.where(func(q int) bool {
		if d.f.People[p].Sex == 1 {
			return d.mayMarry(law, p, q, year)
		}
		return d.mayMarry(law, q, p, year)
	})
}

// mostPairs tries all ways to choose pairs: the men from this index on, without the women who are taken.
func mostPairs(wives [][]int, man int, taken int, known map[[2]int]int) int {
	if man == len(wives) {
		return 0
	}
	if n, ok := known[[2]int{man, taken}]; ok {
		return n
	}
	most := mostPairs(wives, man+1, taken, known)
	for _, woman := range wives[man] {
		if taken&(1<<woman) == 0 {
			most = max(most, 1+mostPairs(wives, man+1, taken|1<<woman, known))
		}
	}
	known[[2]int{man, taken}] = most
	return most
}

func (d degrees) mostWeddings(law impl.Law, year int) int {
	wives := make([][]int, len(d.f.People))
	for p := range d.f.People {
		if d.f.People[p].Sex == 1 {
			wives[p] = d.partnersAllowed(law, p, year)
		}
	}
	return mostPairs(wives, 0, 0, map[[2]int]int{})
}

func (d degrees) audit(law impl.Law) [][]int {
	lists := [][]int{}
	for k, u := range d.f.Unions {
		before := impl.Family{People: d.f.People}
		for i, other := range d.f.Unions {
			if other.From < u.From || i < k && other.From == u.From {
				before.Unions = append(before.Unions, other)
			}
		}
		lists = append(lists, degrees{f: before, up: d.up}.impediments(law, u.Man, u.Woman, u.From))
	}
	return lists
}

func wantClassPartners(f impl.Family, c impl.Classes, given []int, p int) []int {
	list := []int{}
	for q := range f.People {
		man, woman := p, q
		if f.People[p].Sex == 2 {
			man, woman = q, p
		}
		if f.People[man].Sex == 1 && f.People[woman].Sex == 2 && given[woman] == c.Wife[given[man]] {
			list = append(list, q)
		}
	}
	return list
}

// Laws, families and years.

// free is the law with the fewest bars, and has none that the document lets a law leave out.
var free = impl.Law{Wives: 9, Husbands: 9}

// numbersOf gives access to the numbers of a law, with their bounds.
func numbersOf(law *impl.Law) []struct {
	value       *int
	least, most int
} {
	return []struct {
		value       *int
		least, most int
	}{
		{&law.Degree, 0, 20}, {&law.Canon, 0, 10}, {&law.Affinity, 0, 20}, {&law.Age, 0, 99}, {&law.Wives, 1, 9}, {&law.Husbands, 1, 9},
	}
}

// chanceLaw returns a valid law: strict ones, lax ones, and those in between.
func chanceLaw(r *rand.Rand) impl.Law {
	law := free
	for i, x := range numbersOf(&law) {
		switch r.IntN(4) {
		case 0:
			*x.value = x.least + r.IntN(x.most-x.least+1)
		case 1:
			*x.value = min(x.most, x.least+r.IntN(6))
		case 2:
			if i < 4 {
				*x.value = x.least
			}
		}
	}
	law.Patriline, law.Matriline = r.IntN(3) == 0, r.IntN(3) == 0
	return law
}

// stricterLaw returns the law after changes by chance that make it stricter, or leave it.
func stricterLaw(r *rand.Rand, law impl.Law) impl.Law {
	for i, x := range numbersOf(&law) {
		switch {
		case r.IntN(2) == 0:
		case i < 4:
			*x.value += r.IntN(min(4, 1+x.most-*x.value))
		default:
			*x.value -= r.IntN(1 + *x.value - x.least)
		}
	}
	law.Patriline = law.Patriline || r.IntN(3) == 0
	law.Matriline = law.Matriline || r.IntN(3) == 0
	return law
}

// notLaws has each number of a law beyond its bounds.
func notLaws() []impl.Law {
	list := []impl.Law{{}, {Wives: 1}, {Husbands: 1}, {Degree: 4, Age: 16, Patriline: true}}
	for i, x := range numbersOf(&impl.Law{}) {
		for _, value := range []int{x.least - 1, x.most + 1, x.most + 100, -100, 256 + x.least, 1<<32 + x.least, lowest, highest} {
			law := free
			*numbersOf(&law)[i].value = value
			list = append(list, law)
		}
	}
	return list
}

// chanceYear returns a year near to those of the family, and sometimes one that is far from all years.
func chanceYear(r *rand.Rand, f impl.Family) int {
	far := []int{lowest, lowest + 1, -1, 0, 9998, 9999, 10000, 10099, highest - 1, highest}
	if len(f.People) == 0 || r.IntN(12) == 0 {
		return far[r.IntN(len(far))]
	}
	p := f.People[r.IntN(len(f.People))]
	years := []int{p.Born, p.Died, p.Born + r.IntN(40)}
	if len(f.Unions) > 0 {
		u := f.Unions[r.IntN(len(f.Unions))]
		years = append(years, u.From, u.To, u.From)
	}
	return years[r.IntN(len(years))] + r.IntN(3) - 1
}

// weddingFamily has men, and then women, who are no kin, and united those whom no wedding can unite: in the years before 30.
func weddingFamily(r *rand.Rand, men int, women int, united int) impl.Family {
	var f impl.Family
	for i := range men + women {
		sex := 1
		if i >= men {
			sex = 2
		}
		f.People = append(f.People, impl.Person{Name: chanceName(r, i), Sex: sex, Father: -1, Mother: -1, Born: r.IntN(20), Died: -1})
	}
	for _, pair := range r.Perm(men * women)[:united] {
		f.Unions = append(f.Unions, impl.Union{Man: pair % men, Woman: men + pair/men, From: 20 + r.IntN(5), To: 25 + r.IntN(5)})
	}
	return f
}

// marriageFamilies has families with unions, kin and deaths of all kinds.
func marriageFamilies(t *testing.T, r *rand.Rand, n int) []impl.Family {
	t.Helper()
	list := append(descentFamilies(t, r, n), ladder(5), manyLines(t), twoWays(t), parse(t, inlaws))
	for range n {
		men, women := 1+r.IntN(7), 1+r.IntN(7)
		list = append(list, inbredFamily(r, 1+r.IntN(impl.MaxPeople)), weddingFamily(r, men, women, r.IntN(men*women+1)))
	}
	for _, f := range list {
		if !impl.IsFamily(f) {
			t.Fatalf("not valid: %v", f)
		}
	}
	return list
}

package tests

import (
	"fmt"
	"strings"
	"testing"

	"loop.example/g03221/impl"
)

// shareText writes the persons by their names: "greta 1/6, hans 1/6".
func shareText(f impl.Family, list []impl.Share) string {
	parts := []string{}
	for _, x := range list {
		parts = append(parts, fmt.Sprintf("%s %d/%d", f.People[x.Person].Name, x.Num, x.Den))
	}
	return strings.Join(parts, ", ")
}

// An inheritance asks for the shares of the estate of a person in a year.
type inheritance struct {
	name string
	year int
	want string
}

func checkShares(t *testing.T, f impl.Family, list []inheritance) {
	t.Helper()
	for _, x := range list {
		p, ok := impl.FindPerson(f, x.name)
		expect(t, ok, true, "FindPerson %s", x.name)
		expect(t, shareText(f, impl.SharesOf(f, p, x.year)), x.want, "SharesOf %s in %d", x.name, x.year)
	}
}

func TestP13SharesOfChildren(t *testing.T) {
	checkShares(t, parse(t, dynasty), []inheritance{
		{"karl", 65, "maria 1/3, otto 1/3, greta 1/6, hans 1/6"},
		{"anna", 70, "maria 1/3, otto 1/3, greta 1/6, hans 1/6"},
		{"karl", 60, "maria 1/3, otto 1/3, greta 1/6, hans 1/6"},
		// One who is alive keeps the part, and the children have none of it.
		{"karl", 59, "maria 1/3, otto 1/3, franz 1/6, greta 1/6"},
		{"karl", 44, "ludwig 1/3, maria 1/3, otto 1/3"},
		{"karl", 24, "ludwig 1/2, maria 1/2"},
		{"karl", 20, "ludwig 1/1"},
		// Otto is dead and has no children.
		{"karl", 90, "maria 1/2, greta 1/4, hans 1/4"},
		{"karl", highest, "maria 1/2, greta 1/4, hans 1/4"},
		{"ludwig", 65, "greta 1/2, hans 1/2"},
		{"berta", 95, "greta 1/2, hans 1/2"},
		{"karl", 19, ""},
		{"karl", lowest, ""},
		{"fremd", 65, ""},
		{"fremd", highest, ""},
	})
	checkShares(t, parse(t, house), []inheritance{
		{"adam", 60, "ada 1/4, cain 1/4, seth 1/4, zilla 1/4"},
		{"adam", 70, "ada 1/4, seth 1/4, zilla 1/4, tubal 1/4"},
		{"eva", 70, "ada 1/2, tubal 1/2"},
		{"lilith", 70, "seth 1/2, enos 1/2"},
		{"zilla", 70, "ada 1/3, seth 1/3, tubal 1/3"},
		{"tubal", 70, "ada 1/1"},
		{"enos", 70, "lilith 1/1"},
		{"stranger", 70, ""},
	})
}

func TestP13SharesOfParents(t *testing.T) {
	checkShares(t, parse(t, dynasty), []inheritance{
		{"hans", 59, "franz 1/1"},
		{"ida", 65, "maria 1/1"},
		{"otto", 29, "karl 1/2, anna 1/2"},
		// Those who are dead take part for their other children.
		{"otto", 60, "anna 1/2, maria 1/4, greta 1/8, hans 1/8"},
		{"otto", 95, "maria 1/2, greta 1/4, hans 1/4"},
		{"greta", 65, "berta 1/2, hans 1/2"},
		{"greta", 44, "ludwig 1/2, berta 1/2"},
		// Franz has no other child, and takes no part, but leads to his parents.
		{"hans", 65, "berta 1/2, greta 1/2"},
		// In years before the birth, as well.
		{"hans", 46, "franz 1/1"},
		{"hans", 30, "ludwig 1/2, berta 1/2"},
		{"hans", 20, "ludwig 1/1"},
		{"hans", 19, "karl 1/2, anna 1/2"},
		{"hans", 1, "karl 1/1"},
		{"hans", -1, ""},
		{"hans", lowest, ""},
	})
}

// TestP13SharesOfTheYearOfDeath: one who dies in the year keeps nothing, and one who is born in it does.
func TestP13SharesOfTheYearOfDeath(t *testing.T) {
	f := parse(t, "man a - - 0 50\nman b a - 20 50\nman c a - 21 51\nman d b - 51 52\nman e c - 52 -\n")
	checkShares(t, f, []inheritance{
		{"a", 49, "b 1/2, c 1/2"}, {"a", 50, "c 1/1"}, {"a", 51, "d 1/1"}, {"a", 52, "e 1/1"},
		{"b", 49, "a 1/1"}, {"b", 50, "c 1/1"}, {"b", 51, "d 1/1"}, {"b", 52, "e 1/1"},
		{"d", 51, ""}, {"d", 52, "e 1/1"}, {"e", 51, "d 1/1"}, {"e", 52, ""},
	})
}

// TestP13SharesGoUp: each generation is asked only if nobody takes part in those before, and those who take no part lead on.
func TestP13SharesGoUp(t *testing.T) {
	f := parse(t, "man a - - 0 40\nwoman b - - 1 99\nman c a - 20 60\nwoman d - b 21 60\nman e c d 40 80\nwoman g - - 41 98\nman x e g 60 97\nwoman y - b 30 -\nman z a - 31 -\n")
	checkShares(t, f, []inheritance{
		{"x", 79, "e 1/2, g 1/2"},
		{"x", 80, "g 1/1"},
		{"x", 98, "b 1/2, z 1/2"},
		{"x", 99, "y 1/2, z 1/2"},
		{"x", 40, "e 1/1"},
		{"x", 39, "c 1/2, d 1/2"},
		{"x", 20, "c 1/1"},
		{"x", 19, "a 1/2, b 1/2"},
		{"c", 60, "e 1/1"},
		{"c", 80, "x 1/1"},
		{"c", 97, "z 1/1"},
		{"c", 20, "a 1/1"},
		{"d", 97, "b 1/1"},
		{"d", 99, "y 1/1"},
	})
}

// TestP13SharesOfGenerations: in a generation each person is counted once, but what comes in several ways is added.
func TestP13SharesOfGenerations(t *testing.T) {
	// The parents have one father, and each has another mother.
	f := parse(t, "man a - - 0 -\nwoman b - - 0 -\nwoman c - - 0 -\nman d a b 20 50\nwoman e a c 20 50\nman x d e 40 -\n")
	checkShares(t, f, []inheritance{{"x", 50, "a 1/3, b 1/3, c 1/3"}, {"x", 49, "d 1/2, e 1/2"}, {"d", 60, "x 1/1"}, {"a", 60, "x 1/1"}})
	f.People[0].Died = 60
	checkShares(t, f, []inheritance{{"x", 60, "b 1/2, c 1/2"}, {"x", 59, "a 1/3, b 1/3, c 1/3"}})
	// The mother's father is the father's brother, and so he and his father are of one generation.
	f = parse(t, "man a - - 0 70\nman b a - 20 80\nman c a - 21 70\nwoman d b - 40 70\nman x c d 60 -\n")
	checkShares(t, f, []inheritance{{"x", 69, "c 1/2, d 1/2"}, {"x", 70, "b 1/1"}, {"x", 79, "b 1/1"}, {"x", 80, ""}})
	checkShares(t, f, []inheritance{{"a", 70, "b 1/2, x 1/2"}, {"a", 80, "x 1/1"}, {"b", 80, "x 1/1"}})
	// The father's other son takes part in his place, and so the generation above is not asked.
	f = parse(t, "man a - - 0 -\nman c a - 21 70\nwoman d - - 40 70\nman g c - 50 -\nman x c d 60 -\n")
	checkShares(t, f, []inheritance{{"x", 70, "g 1/1"}, {"g", 70, "x 1/1"}, {"d", 70, "x 1/1"}, {"a", 70, "g 1/2, x 1/2"}})
}

// TestP13SharesByTwoParents: those who are below two heirs keep what comes from both.
func TestP13SharesByTwoParents(t *testing.T) {
	f := parse(t, "man a - - 0 50\nman b a - 20 50\nwoman c a - 20 50\nman d a - 20 -\nman x b c 40 -\nwoman y b - 41 -\nman z - c 42 -\nwoman w - c 43 44\n")
	checkShares(t, f, []inheritance{
		{"a", 50, "d 1/3, x 1/3, y 1/6, z 1/6"},
		{"d", 50, "x 1/2, y 1/4, z 1/4"},
		{"x", 50, "y 1/2, z 1/2"},
		{"y", 50, "x 1/1"},
		{"w", 50, "x 1/2, z 1/2"},
		{"b", 43, "x 1/2, y 1/2"},
		{"c", 43, "x 1/3, z 1/3, w 1/3"},
	})
}

// TestP13ManyShares: there are as many as can be.
func TestP13ManyShares(t *testing.T) {
	f := impl.Family{}
	addChild(&f, 1, -1, -1)
	want := []impl.Share{}
	for i := 1; i < impl.MaxPeople; i++ {
		want = append(want, impl.Share{Person: addChild(&f, 2, 0, -1), Num: 1, Den: 39})
	}
	expect(t, impl.SharesOf(f, 0, 20), want, "SharesOf of 39 children")
	f.People[0].Died = 20
	for i := range want {
		want[i].Den = 38
	}
	expect(t, impl.SharesOf(f, 1, 20), want[1:], "SharesOf of 38 sisters")
}

// TestP13LargeFractions: each brother divides by four and each sister by three, for ten generations.
func TestP13LargeFractions(t *testing.T) {
	f := brothers(10)
	expect(t, impl.IsFamily(f) && len(f.People) == impl.MaxPeople, true, "the family is valid and has forty persons")
	num, den := 1, 4
	want := []impl.Share{}
	for g := 1; g < 10; g++ {
		half := impl.Share{Person: 4*g + 1, Num: num / 7, Den: den / 3}
		if g == 1 {
			half.Num, half.Den = 1, 4
		}
		want = append(want, impl.Share{Person: 4 * g, Num: num, Den: den}, half)
		num, den = num*7, den*12
	}
	// The last brother and sister have a child, and he has another one.
	want = append(want, impl.Share{Person: 38, Num: num / 7, Den: den / 12 * 2 / 3}, impl.Share{Person: 39, Num: num / 7, Den: den / 12 * 2})
	expect(t, impl.SharesOf(f, 0, 500), want, "SharesOf the first brother")
	expect(t, want[len(want)-1].Den, 8*429981696, "the last denominator")
	for p := range f.People {
		expect(t, impl.SharesOf(f, p, 500), wantShares(f, p, 500), "SharesOf %d", p)
	}
}

func TestP13SharesByChance(t *testing.T) {
	r := newChance(196)
	count := map[string]int{}
	for _, f := range successionFamilies(t, r, 30) {
		for range 12 * min(1, len(f.People)) {
			p, year := r.IntN(len(f.People)), chanceYear(r, f)
			want := wantShares(f, p, year)
			expect(t, impl.SharesOf(f, p, year), want, "SharesOf %v %d %d", f, p, year)
			count["several"] += min(1, len(want)/3)
			count["nobody"] += 1 - min(1, len(want))
			for _, x := range want {
				count["sums"] += min(1, x.Num/2)
			}
		}
	}
	if count["several"] < 300 || count["nobody"] < 300 || count["sums"] < 100 {
		t.Errorf("shares of all kinds: %v", count)
	}
}

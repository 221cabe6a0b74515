// The tests hold the package's exported calls alone against the document's words.
package vote_test

import (
	"math"
	"testing"

	"seisin/api"
	"seisin/vote"
)

const (
	// highest is the greatest term.
	highest = 1 << 40
	// most is how many replicas a group has at most.
	most = 7
)

// enoughBy is Enough, by the document's words: more than half.
func enoughBy(n int) int {
	if n <= 0 || n >= most+1 {
		return 0
	}
	enough := 0
	for 2*enough <= n {
		enough++
	}
	return enough
}

// asNewBy is AsNew, by the document's words.
func asNewBy(last, term, own, ownTerm int) bool {
	greater := term > ownTerm
	same := term == ownTerm
	less := last < own
	return greater || same && !less
}

// stepBy is Step, by the document's words.
func stepBy(b api.Ballot, term int) api.Ballot {
	if term > b.Term {
		b.Term, b.For = term, -1
	}
	return b
}

// grantBy is Grant, by the document's words.
func grantBy(b api.Ballot, from, term int, asNew bool) (api.Ballot, bool) {
	switch {
	case from <= -1 || from >= most:
		return b, false
	case b.Term != term:
		return b, false
	case b.For != -1 && b.For != from:
		return b, false
	case !asNew:
		return b, false
	}
	b.For = from
	return b, true
}

// wide are whole numbers of all sizes, among them such as would be others if
// they lost their sign, or their high bits.
func wide() []int {
	return []int{math.MinInt, math.MinInt + 1, -1<<62 + 1, -highest - 1, -highest, -1 << 32, -1<<32 + 1, -257, -256, -8, -7, -2, -1,
		0, 1, 2, 3, 5, 6, 7, 8, 9, 255, 256, 257, 258, 1<<32 - 1, 1 << 32, 1<<32 + 1, 1<<32 + 3, highest - 1, highest, highest + 1, highest + 2,
		2 * highest, 1<<62 + 1, math.MaxInt - 1, math.MaxInt}
}

func checkStep(t *testing.T, b api.Ballot, term int) api.Ballot {
	t.Helper()
	got, want := vote.Step(b, term), stepBy(b, term)
	if got != want {
		t.Fatalf("%v steps to term %d as %v, not %v", b, term, got, want)
	}
	return got
}

func checkGrant(t *testing.T, b api.Ballot, from, term int, asNew bool) (api.Ballot, bool) {
	t.Helper()
	got, yes := vote.Grant(b, from, term, asNew)
	want, wantYes := grantBy(b, from, term, asNew)
	if got != want || yes != wantYes {
		t.Fatalf("%v grants %d, term %d, %v: %v, %v, not %v, %v", b, from, term, asNew, got, yes, want, wantYes)
	}
	return got, yes
}

// P16.1: Enough

func TestEnoughOfEachGroup(t *testing.T) {
	for n, want := range []int{0, 1, 2, 2, 3, 3, 4, 4, 0, 0} {
		if got := vote.Enough(n); got != want {
			t.Errorf("of %d: %d, not %d", n, got, want)
		}
	}
	if api.MaxReplicas != most {
		t.Error("another most")
	}
}

func TestEnoughOfAnyNumber(t *testing.T) {
	for n := -300; n < 70000; n++ {
		if got := vote.Enough(n); got != enoughBy(n) {
			t.Fatalf("of %d: %d", n, got)
		}
	}
	for _, n := range wide() {
		if got := vote.Enough(n); got != enoughBy(n) {
			t.Errorf("of %d: %d", n, got)
		}
	}
}

// P16.1: AsNew

func TestAsNewByHand(t *testing.T) {
	for _, c := range []struct {
		what                     string
		last, term, own, ownTerm int
		want                     bool
	}{
		{"both empty", 0, 0, 0, 0, true},
		{"the same", 5, 2, 5, 2, true},
		{"longer", 6, 2, 5, 2, true},
		{"shorter", 4, 2, 5, 2, false},
		{"a later term", 5, 3, 5, 2, true},
		{"a term ahead", 5, 1, 5, 2, false},
		{"a later term, and shorter", 1, 3, 9, 2, true},
		{"a term ahead, and longer", 9, 2, 1, 3, false},
		{"empty against one", 0, 0, 1, 1, false},
		{"one against empty", 1, 1, 0, 0, true},
		{"at the limits", highest, highest, highest, highest, true},
		{"below the greatest index", highest - 1, highest, highest, highest, false},
		{"below the greatest term", highest, highest - 1, 0, highest, false},
		{"the greatest term", 0, highest, highest, highest - 1, true},
	} {
		if got := vote.AsNew(c.last, c.term, c.own, c.ownTerm); got != c.want {
			t.Errorf("%s: %v", c.what, got)
		}
	}
}

func TestAsNewOfAnyNumbers(t *testing.T) {
	for _, last := range wide() {
		for _, own := range wide() {
			for _, term := range wide() {
				for _, ownTerm := range wide() {
					if got := vote.AsNew(last, term, own, ownTerm); got != asNewBy(last, term, own, ownTerm) {
						t.Fatalf("%d of %d against %d of %d: %v", last, term, own, ownTerm, got)
					}
				}
			}
		}
	}
}

// Of two logs one is as new as the other one; both are just if they end alike;
// and what is as new as one that is as new as a third is as new as that.
func TestAsNewIsAnOrder(t *testing.T) {
	type end struct{ last, term int }
	var ends []end
	for last := range 5 {
		for term := range 5 {
			ends = append(ends, end{last, term})
		}
	}
	asNew := func(a, b end) bool { return vote.AsNew(a.last, a.term, b.last, b.term) }
	for _, a := range ends {
		for _, b := range ends {
			if !asNew(a, b) && !asNew(b, a) || (asNew(a, b) && asNew(b, a)) != (a == b) {
				t.Errorf("%v and %v", a, b)
			}
			for _, c := range ends {
				if asNew(a, b) && asNew(b, c) && !asNew(a, c) {
					t.Errorf("%v, %v and %v", a, b, c)
				}
			}
		}
	}
}

// P16.1: Step

func TestStepByHand(t *testing.T) {
	for _, c := range []struct {
		b    api.Ballot
		term int
		want api.Ballot
	}{
		{api.Ballot{Term: 3, For: 1}, 4, api.Ballot{Term: 4, For: api.Nobody}},
		{api.Ballot{Term: 3, For: 1}, 3, api.Ballot{Term: 3, For: 1}},
		{api.Ballot{Term: 3, For: 1}, 2, api.Ballot{Term: 3, For: 1}},
		{api.Ballot{Term: 3, For: 0}, 9, api.Ballot{Term: 9, For: api.Nobody}},
		{api.Ballot{Term: 3, For: api.Nobody}, 4, api.Ballot{Term: 4, For: api.Nobody}},
		{api.Ballot{Term: 3, For: api.Nobody}, 3, api.Ballot{Term: 3, For: api.Nobody}},
		{api.Ballot{}, 1, api.Ballot{Term: 1, For: api.Nobody}},
		{api.Ballot{}, 0, api.Ballot{}},
		{api.Ballot{}, -1, api.Ballot{}},
		{api.Ballot{Term: highest - 1, For: 6}, highest, api.Ballot{Term: highest, For: api.Nobody}},
		{api.Ballot{Term: highest, For: 6}, highest, api.Ballot{Term: highest, For: 6}},
		{api.Ballot{Term: highest, For: 6}, highest - 1, api.Ballot{Term: highest, For: 6}},
	} {
		if got := vote.Step(c.b, c.term); got != c.want {
			t.Errorf("%v steps to term %d as %v, not %v", c.b, c.term, got, c.want)
		}
	}
}

func TestStepOfAnyBallots(t *testing.T) {
	for _, was := range wide() {
		for _, who := range wide() {
			for _, term := range wide() {
				checkStep(t, api.Ballot{Term: was, For: who}, term)
			}
		}
	}
	for was := range 20 {
		for who := -3; who < 10; who++ {
			for term := -3; term < 25; term++ {
				checkStep(t, api.Ballot{Term: was, For: who}, term)
			}
		}
	}
}

// P16.1: Grant

func TestGrantByHand(t *testing.T) {
	free, given := api.Ballot{Term: 4, For: api.Nobody}, api.Ballot{Term: 4, For: 2}
	for _, c := range []struct {
		what       string
		b          api.Ballot
		from, term int
		asNew      bool
		want       api.Ballot
		yes        bool
	}{
		{"nobody was voted for", free, 2, 4, true, given, true},
		{"the same one", given, 2, 4, true, given, true},
		{"another one", given, 1, 4, true, given, false},
		{"a log that isn't as new", free, 2, 4, false, free, false},
		{"the same one, whose log isn't as new", given, 2, 4, false, given, false},
		{"a later term", free, 2, 5, true, free, false},
		{"a later term, and the same one", given, 2, 5, true, given, false},
		{"a term ahead", free, 2, 3, true, free, false},
		{"a term ahead, and the same one", given, 2, 3, true, given, false},
		{"the first replica", free, 0, 4, true, api.Ballot{Term: 4}, true},
		{"the last replica", free, 6, 4, true, api.Ballot{Term: 4, For: 6}, true},
		{"one behind the last", free, 7, 4, true, free, false},
		{"nobody", free, api.Nobody, 4, true, free, false},
		{"below nobody", free, -2, 4, true, free, false},
		{"one behind the last, who has it", api.Ballot{Term: 4, For: 7}, 7, 4, true, api.Ballot{Term: 4, For: 7}, false},
		{"the zero ballot has the first", api.Ballot{}, 0, 0, true, api.Ballot{}, true},
		{"the zero ballot has nobody else", api.Ballot{}, 1, 0, true, api.Ballot{}, false},
		{"the greatest term", api.Ballot{Term: highest, For: api.Nobody}, 3, highest, true, api.Ballot{Term: highest, For: 3}, true},
	} {
		got, yes := vote.Grant(c.b, c.from, c.term, c.asNew)
		if got != c.want || yes != c.yes {
			t.Errorf("%s: %v, %v, not %v, %v", c.what, got, yes, c.want, c.yes)
		}
	}
}

func TestGrantOfAnyBallots(t *testing.T) {
	for _, was := range wide() {
		for _, who := range wide() {
			for _, from := range wide() {
				for _, term := range wide() {
					checkGrant(t, api.Ballot{Term: was, For: who}, from, term, true)
				}
				checkGrant(t, api.Ballot{Term: was, For: who}, from, was, false)
			}
		}
	}
	for was := range 5 {
		for who := -3; who < 10; who++ {
			for from := -3; from < 10; from++ {
				for term := -2; term < 7; term++ {
					checkGrant(t, api.Ballot{Term: was, For: who}, from, term, true)
					checkGrant(t, api.Ballot{Term: was, For: who}, from, term, false)
				}
			}
		}
	}
}

// P16.4

// votes is a replica's ballot, and for whom it voted in each term.
type votes struct {
	b     api.Ballot
	given map[int]int
}

// asked hands the ballot a letter's term, and then a wish for a vote, each of
// which may come late, and twice.
func (v *votes) asked(t *testing.T, from, term int, asNew bool) {
	t.Helper()
	was := v.b
	v.b = checkStep(t, v.b, term)
	b, yes := checkGrant(t, v.b, from, term, asNew)
	if v.b = b; b.Term < was.Term {
		t.Fatalf("the term falls: %v behind %v", b, was)
	}
	if b.Term == was.Term && was.For != api.Nobody && b != was {
		t.Fatalf("a vote is taken back: %v behind %v", b, was)
	}
	if !yes {
		return
	}
	if other, voted := v.given[term]; voted && other != from {
		t.Fatalf("in term %d it votes for %d, and for %d", term, other, from)
	}
	v.given[term] = from
}

// All rows of four wishes.
func TestOneVoteATermInAllShortRows(t *testing.T) {
	const replicas, terms = 3, 3
	kinds := replicas * terms * 2
	for row := range kinds * kinds * kinds * kinds {
		v := votes{b: api.Ballot{For: api.Nobody}, given: map[int]int{}}
		for range 4 {
			wish := row % kinds
			v.asked(t, wish%replicas, wish/replicas%terms, wish/replicas/terms == 0)
			row /= kinds
		}
	}
}

func TestOneVoteATermInALongRow(t *testing.T) {
	v := votes{b: api.Ballot{For: api.Nobody}, given: map[int]int{}}
	state := uint64(1)
	next := func(n int) int {
		state = state*6364136223846793005 + 1442695040888963407
		return int(state>>33) % n
	}
	for i := range 20000 {
		v.asked(t, next(10)-1, i/50+next(5)-2, next(4) > 0)
	}
	if len(v.given) < 200 {
		t.Errorf("only %d terms with a vote", len(v.given))
	}
}

// lots answers all sets of so many out of n, a bit each.
func lots(n, many int) []int {
	var list []int
	for set := range 1 << n {
		count := 0
		for i := range n {
			count += set >> i & 1
		}
		if count == many {
			list = append(list, set)
		}
	}
	return list
}

func TestAnyTwoLotsOfEnoughShareOne(t *testing.T) {
	for n := 1; n <= most; n++ {
		all := lots(n, vote.Enough(n))
		if len(all) == 0 {
			t.Errorf("of %d nothing is enough", n)
		}
		for _, a := range all {
			for _, b := range all {
				if a&b == 0 {
					t.Errorf("of %d: %b and %b share none", n, a, b)
				}
			}
		}
		// With one fewer they need not: no fewer are enough.
		apart := false
		for _, a := range lots(n, vote.Enough(n)-1) {
			for _, b := range lots(n, vote.Enough(n)-1) {
				apart = apart || a&b == 0
			}
		}
		if !apart {
			t.Errorf("of %d fewer are enough", n)
		}
	}
}

// Of a group in which all vote as they are asked, whoever is asked first, two
// never have enough in one term.
func TestNoTwoHaveEnoughInOneTerm(t *testing.T) {
	for n := 1; n <= most; n++ {
		for first := range 1 << n {
			count := [2]int{}
			for i := range n {
				b := vote.Step(api.Ballot{For: api.Nobody}, 5)
				for turn := range 2 {
					who := first>>i&1 ^ turn
					next, yes := vote.Grant(b, who, 5, true)
					if b = next; yes {
						count[who]++
					}
				}
			}
			if enough := vote.Enough(n); count[0] >= enough && count[1] >= enough || count[0]+count[1] != n {
				t.Errorf("of %d: %v", n, count)
			}
		}
	}
}

func TestTheSameCallHasTheSameAnswer(t *testing.T) {
	b := api.Ballot{Term: 4, For: api.Nobody}
	for range 3 {
		checkGrant(t, b, 2, 4, true)
		checkGrant(t, b, 7, 4, true)
		checkStep(t, b, 5)
		if k, ok := vote.Agreed([]int{4, 9, 7}); k != 7 || !ok {
			t.Error(k, ok)
		}
		if vote.Enough(5) != 3 || !vote.AsNew(1, 3, 9, 2) {
			t.Error("another answer")
		}
		check(t, "the same", b)
	}
}

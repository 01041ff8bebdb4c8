package pattern

// part is what one part of a pattern matches. Its spots are the single bytes
// that a match is made of, numbered from 0 on; a set of spots is a number in
// which bit i stands for spot i. A part has no more spots than weight. No
// function changes a list of a part that it is handed: so a part can be used
// any number of times.
type part struct {
	empty bool  // the empty string matches
	first int   // the spots at which a match may begin
	last  int   // the spots at which a match may end
	next  []int // of each spot the spots that may come behind it
	sets  []int // of each spot the number of its set of bytes
}

func has(spots, i int) bool {
	return move(1, i)&spots != 0
}

// move gives the spots renumbered by so many upwards.
func move(spots, by int) int {
	if by < 0 {
		return 0
	}
	return spots << uint(by)
}

func onePart(set int) part {
	return part{first: 1, last: 1, next: []int{0}, sets: []int{set}}
}

// link gives the list of nexts in which the spots of to come behind each of
// from too.
func link(next []int, from, to int) []int {
	linked := []int{}
	for i := 0; i < len(next); i++ {
		spots := next[i]
		if has(from, i) {
			spots |= to
		}
		linked = append(linked, spots)
	}
	return linked
}

// beside gives the part that matches what a or b does, with the spots of b
// numbered behind those of a.
func beside(a, b part) part {
	by := len(a.next)
	both := part{empty: a.empty || b.empty}
	both.first = a.first | move(b.first, by)
	both.last = a.last | move(b.last, by)
	both.next = link(a.next, 0, 0)
	for i := 0; i < len(b.next); i++ {
		both.next = append(both.next, move(b.next[i], by))
	}
	for i := 0; i < len(a.sets); i++ {
		both.sets = append(both.sets, a.sets[i])
	}
	for i := 0; i < len(b.sets); i++ {
		both.sets = append(both.sets, b.sets[i])
	}
	return both
}

// behind gives the part that matches what a does and then what b does.
func behind(a, b part) part {
	by := len(a.next)
	both := beside(a, b)
	both.next = link(both.next, a.last, move(b.first, by))
	both.empty = a.empty && b.empty
	if !a.empty {
		both.first = a.first
	}
	if !b.empty {
		both.last = move(b.last, by)
	}
	return both
}

// again gives the part that matches any number of times, from one on, what a
// does.
func again(a part) part {
	a.next = link(a.next, a.last, a.first)
	return a
}

func orEmpty(a part) part {
	a.empty = true
	return a
}

// repeat gives the part that matches low to high times what a does: those
// above low may be left out.
func repeat(a part, low, high int) part {
	whole := part{empty: true}
	for k := 0; k < high; k++ {
		if k < low {
			whole = behind(whole, a)
		} else {
			whole = behind(whole, orEmpty(a))
		}
	}
	return whole
}

// partOf gives the part of the node with the number i.
func partOf(t Tree, i int) part {
	if i < 0 || i >= len(t.nodes) {
		return part{}
	}
	n := t.nodes[i]
	switch n.kind {
	case empty:
		return part{empty: true}
	case one:
		return onePart(n.set)
	case times:
		return timesPart(t, n)
	}
	left := partOf(t, n.left)
	switch n.kind {
	case join:
		right := partOf(t, n.right)
		return behind(left, right)
	case either:
		right := partOf(t, n.right)
		return beside(left, right)
	case star:
		return orEmpty(again(left))
	case plus:
		return again(left)
	}
	return orEmpty(left)
}

// timesPart does not look into what is taken 0 times: that adds nothing to
// the weight, so it may be too great to be built.
func timesPart(t Tree, n node) part {
	if n.low > n.high {
		return part{}
	}
	if n.high == 0 {
		return part{empty: true}
	}
	inner := partOf(t, n.left)
	return repeat(inner, n.low, n.high)
}

package search

// A shelf has the expressions of a pattern and those that they come down to while they are given bytes.
type shelf struct {
	list   []expression
	joined map[pair]int
}

type pair struct{ first, then int }

// derive tells what is left of an expression when it has been given a byte: any of these. They are told one by one, not as one choice, since so there are never more of them, whatever the bytes, than the pattern has bytes, and the pattern itself.
func (s *shelf) derive(at int, b byte) []int {
	e := s.list[at]
	switch e.kind {
	case oneByte:
		if e.has(b) {
			return []int{end}
		}
	case sequence:
		left := s.joinEach(s.derive(e.left, b), e.right)
		if s.list[e.left].empty {
			left = append(left, s.derive(e.right, b)...)
		}
		return left
	case choice:
		return append(s.derive(e.left, b), s.derive(e.right, b)...)
	case anyTimes:
		return s.joinEach(s.derive(e.left, b), at)
	case someTimes:
		return s.joinEach(s.derive(e.left, b), e.right)
	case onceOrNever:
		return s.derive(e.left, b)
	}
	return nil
}

func (s *shelf) joinEach(firsts []int, then int) []int {
	out := make([]int, len(firsts))
	for i, first := range firsts {
		out[i] = s.join(first, then)
	}
	return out
}

// join makes a sequence, and the same one of the same parts: were it a new one each time, there would be no end of them.
func (s *shelf) join(first, then int) int {
	if first == end {
		return then
	}
	key := pair{first, then}
	at, ok := s.joined[key]
	if !ok {
		e := expression{kind: sequence, left: first, right: then}
		e.empty = matchesEmpty(s.list, e)
		at = len(s.list)
		s.list = append(s.list, e)
		s.joined[key] = at
	}
	return at
}

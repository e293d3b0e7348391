package search

// A class tells whether it has a byte.
type class func(b byte) bool

func every(b byte) bool { return true }

func between(low, high byte) class {
	return func(b byte) bool { return low <= b && b <= high }
}

func either(one, other class) class {
	return func(b byte) bool { return one(b) || other(b) }
}

func allBut(has class) class {
	return func(b byte) bool { return !has(b) }
}

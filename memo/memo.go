// Package memo: functions that remember.
package memo

// Remember makes a function that asks work for each key once, and then answers what it was told.
func Remember[K comparable, V any](work func(key K) V) func(key K) V {
	known := map[K]V{}
	return func(key K) V {
		value, ok := known[key]
		if !ok {
			value = work(key)
			known[key] = value
		}
		return value
	}
}

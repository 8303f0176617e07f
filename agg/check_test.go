package agg_test

import (
	"testing"

	"heliograph/agg"
	"heliograph/api"
)

// wrong is an aggregate that may not be, and why.
type wrong struct {
	what string
	a    api.Agg
}

// ordinary is the aggregate of 7, 10, 12 and 300, of which 10 is the last: there is a bucket between those of Min and Max, and there are some on either side.
func ordinary() api.Agg {
	return api.Agg{Count: 4, Sum: api.Wide{Lo: 329}, Min: 7, Max: 300, Last: 10, At: stamp(5, 3, 7), Buckets: in(2, 1, 3, 2, 4, 1)}
}

// wrongs are aggregates that may not be, each of them for one reason alone, where that can be.
func wrongs() []wrong {
	var l []wrong
	change := func(what string, change func(a *api.Agg)) {
		a := ordinary()
		change(&a)
		l = append(l, wrong{what, a})
	}
	wrongCounts(change)
	wrongBuckets(change)
	wrongValues(change)
	for _, s := range wrongStamps {
		change("a wrong stamp", func(a *api.Agg) { a.At = s })
	}
	wrongEmpty(func(what string, a api.Agg) { l = append(l, wrong{what, a}) })
	wrongSums(func(what string, a api.Agg) { l = append(l, wrong{what, a}) })
	return l
}

// wrongCounts changes counts, or what should sum to them.
func wrongCounts(change func(string, func(*api.Agg))) {
	change("Count is negative", func(a *api.Agg) { a.Count = -4 })
	change("Count is -1", func(a *api.Agg) { a.Count = -1 })
	change("Count is the least int", func(a *api.Agg) { a.Count = leastInt })
	change("Count is the greatest int", func(a *api.Agg) { a.Count = greatestInt })
	change("Count is less than the buckets' sum", func(a *api.Agg) { a.Count, a.Sum = 3, api.Wide{Lo: 100} })
	change("Count is greater than the buckets' sum", func(a *api.Agg) { a.Count = 5 })
	change("Count is 0, and the buckets are not", func(a *api.Agg) { *a = api.Agg{Buckets: a.Buckets} })
	change("only Count is 0", func(a *api.Agg) { a.Count = 0 })
	change("Count is 2^40 + 1", func(a *api.Agg) { *a = equals(7, maxCount+1, 0) })
	change("Count is 2^40 + 1, of several buckets", func(a *api.Agg) {
		a.Count, a.Sum, a.Buckets[3] = maxCount+1, product(10, maxCount+1, 0), maxCount-1
	})
	change("Count is the greatest int, and so the buckets' sum", func(a *api.Agg) { *a = equals(7, greatestInt, 0) })
	change("Count is -1, and so the buckets' sum", func(a *api.Agg) { *a = equals(-7, -1, 0) })
	change("a Count of -1 and buckets of 0", func(a *api.Agg) { *a = api.Agg{Count: -1} })
}

// wrongBuckets changes buckets.
func wrongBuckets(change func(string, func(*api.Agg))) {
	change("a bucket is greater", func(a *api.Agg) { a.Buckets[3]++ })
	change("a bucket is less", func(a *api.Agg) { a.Buckets[3]-- })
	change("all buckets are 0", func(a *api.Agg) { a.Buckets = in() })
	change("a bucket between is negative", func(a *api.Agg) { a.Buckets = in(2, 4, 3, -1, 4, 1) })
	change("a bucket between is the least int", func(a *api.Agg) { a.Buckets = in(2, greatestInt, 3, leastInt, 4, 5) })
	change("the bucket of Min is negative", func(a *api.Agg) { a.Buckets = in(2, -1, 3, 3, 4, 2) })
	change("the bucket of Max is negative", func(a *api.Agg) { a.Buckets = in(2, 2, 3, 3, 4, -1) })
	for i := range 9 {
		if i < 2 || i > 4 {
			change("a bucket outside is negative", func(a *api.Agg) { a.Buckets[i], a.Buckets[3] = -1, 3 })
			change("a bucket outside has one", func(a *api.Agg) { a.Buckets[i], a.Buckets[3] = 1, 1 })
			change("a bucket outside has one too many", func(a *api.Agg) { a.Buckets[i] = 1 })
		}
	}
	change("the bucket of Min has none", func(a *api.Agg) { a.Buckets = in(3, 3, 4, 1) })
	change("the bucket of Max has none", func(a *api.Agg) { a.Buckets = in(2, 1, 3, 3) })
	change("the buckets of Min and Max have none", func(a *api.Agg) { a.Buckets = in(3, 4) })
	change("the only bucket has none", func(a *api.Agg) { *a = equals(7, 4, 0); a.Buckets = in(3, 4) })
	// Sums that run over and come out right as ints.
	change("the buckets' sum is 2^64 + 4", func(a *api.Agg) {
		*a = equals(7, 4, 0)
		a.Min, a.Buckets = -5, in(0, 1<<62, 1, 1<<62, 2, 1<<62+4)
		a.Max, a.Buckets[3] = 10, 1<<62
	})
	change("the buckets' sum is 2^64 + 4, of two great ones", func(a *api.Agg) { a.Buckets = in(2, greatestInt, 3, greatestInt, 4, 6) })
}

// wrongValues changes the least, the greatest and the last value, and the sum.
func wrongValues(change func(string, func(*api.Agg))) {
	change("Min is above Max", func(a *api.Agg) { a.Min, a.Max = 300, 7 })
	change("Min is above Max by 1, in one bucket", func(a *api.Agg) { *a = equals(50, 4, 0); a.Max = 49 })
	change("Min is above Max and Last is between", func(a *api.Agg) { *a = equals(50, 4, 0); a.Min, a.Max = 51, 49 })
	change("Last is below Min", func(a *api.Agg) { a.Last = 6 })
	change("Last is far below Min", func(a *api.Agg) { a.Last = leastValue })
	change("Last is above Max", func(a *api.Agg) { a.Last = 301 })
	change("Last is far above Max", func(a *api.Agg) { a.Last = greatestValue })
	change("the Sum is too small", func(a *api.Agg) { a.Sum.Lo = 27 })
	change("the Sum is too great", func(a *api.Agg) { a.Sum.Lo = 1201 })
	change("the Sum is negative", func(a *api.Agg) { a.Sum = api.Wide{Hi: -1, Lo: 329} })
	change("the Sum is too great by 2^64", func(a *api.Agg) { a.Sum.Hi = 1 })
	change("the Sum is the least number", func(a *api.Agg) { a.Sum = api.Wide{Hi: -1 << 63} })
	change("the Sum is the greatest number", func(a *api.Agg) { a.Sum = api.Wide{Hi: 1<<63 - 1, Lo: 1<<64 - 1} })
}

// wrongEmpty puts one number into the empty aggregate.
func wrongEmpty(add func(string, api.Agg)) {
	for _, n := range []int{1, -1, 300, leastInt, greatestInt} {
		value := int64(n)
		for _, a := range []api.Agg{
			{Sum: api.Wide{Hi: value}}, {Sum: api.Wide{Lo: uint64(value)}}, {Min: value}, {Max: value}, {Last: value},
			{At: stamp(n, 0, 0)}, {At: stamp(0, n, 0)}, {At: stamp(0, 0, n)},
		} {
			add("Count is 0, and one other number is not", a)
		}
		for i := range 9 {
			add("Count is 0, and a bucket is not", api.Agg{Buckets: in(i, n)})
			add("Count is 0, and two buckets are not, but their sum is", api.Agg{Buckets: in(i, n, (i+1)%9, -n)})
		}
		add("Count alone is not 0", api.Agg{Count: n})
	}
	add("Count is 0, and there is a right stamp", api.Agg{At: stamp(5, 3, 7)})
}

// wrongSums adds sums that are too small or too great by 1, or by what runs over, for each right count.
func wrongSums(add func(string, api.Agg)) {
	for _, count := range counts {
		if count < 1 || count > maxCount {
			continue
		}
		for _, value := range []int64{leastValue, -1000, -1, 0, 1, 7, 123456789012, greatestValue} {
			for _, plus := range []int64{1, 2, 1 << 20, 1 << 32, 1 << 40, greatestValue} {
				add("the Sum is too small", equals(value, count, -plus))
				add("the Sum is too great", equals(value, count, plus))
			}
		}
		if count > 1 {
			a := equals(leastValue, count, -1)
			a.Max, a.Buckets = greatestValue, in(0, 1, last, count-1)
			add("the Sum is too small, with values from end to end", a)
			a.Sum = product(greatestValue, count, 1)
			add("the Sum is too great, with values from end to end", a)
		}
	}
}

// checks tells an aggregate of which Check does not answer that.
func checks(t *testing.T, what string, a api.Agg, want api.Errno) {
	t.Helper()
	if got := agg.Check(a); got != want {
		t.Errorf("%s: Check of %v is %d, want %d", what, a, int(got), int(want))
	}
}

// P8.2: Check of what may be: the edges of each case, and what the chapter does not rule out.
func TestCheck(t *testing.T) {
	right := func(what string, change func(a *api.Agg)) {
		a := ordinary()
		change(&a)
		checks(t, what, a, 0)
	}
	right("ordinary", func(a *api.Agg) {})
	right("empty", func(a *api.Agg) { *a = api.Agg{} })
	right("Last is Min", func(a *api.Agg) { a.Last = 7 })
	right("Last is Max", func(a *api.Agg) { a.Last = 300 })
	right("Last is of a bucket that has none", func(a *api.Agg) { a.Buckets = in(2, 2, 4, 2) })
	right("the Sum is as small as it may be", func(a *api.Agg) { a.Sum.Lo = 28 })
	right("the Sum is as great as it may be", func(a *api.Agg) { a.Sum.Lo = 1200 })
	right("a Count of 1 and two values in one bucket", func(a *api.Agg) { *a = equals(7, 1, 0); a.Max, a.Sum.Lo = 9, 8 })
	right("values from end to end", func(a *api.Agg) {
		*a = api.Agg{Count: 2, Sum: api.Wide{Hi: -1, Lo: 1<<64 - 1}, Min: leastValue, Max: greatestValue, Last: 0, At: stamp(1, 0, 1), Buckets: in(0, 1, last, 1)}
	})
	right("one in each bucket", func(a *api.Agg) {
		*a = api.Agg{Count: 9, Sum: api.Wide{Lo: 5}, Min: -1, Max: 1 << 40, Last: -1, At: stamp(maxSeq, 7, maxSeq), Buckets: [9]int{1, 1, 1, 1, 1, 1, 1, 1, 1}}
	})
	right("2^40 in two buckets", func(a *api.Agg) {
		a.Count, a.Sum, a.Buckets = maxCount, product(300, maxCount, 0), in(2, 1, 4, maxCount-1)
	})
	for _, s := range stamps {
		right("a right stamp", func(a *api.Agg) { a.At = s })
	}
	for _, a := range aggs() {
		checks(t, "right", a, 0)
	}
}

// P8.2: each case by itself.
func TestCheckRefuses(t *testing.T) {
	for _, c := range wrongs() {
		checks(t, c.what, c.a, 1)
	}
}

// P8.2: at both ends of all counts there is a sum that may be, and none beyond.
func TestCheckSums(t *testing.T) {
	for _, count := range counts {
		if count < 2 || count > maxCount {
			continue
		}
		for _, least := range values() {
			for _, greatest := range []int64{least, -1, 0, 1, 99, 1 << 33, greatestValue} {
				if greatest < least {
					continue
				}
				a := api.Agg{Count: count, Min: least, Max: greatest, Last: greatest, At: stamp(1, 0, 1)}
				a.Buckets[bucketOf(least)]++
				a.Buckets[bucketOf(greatest)] += count - 1
				for plus := int64(-1); plus <= 1; plus++ {
					a.Sum = product(least, count, plus)
					checks(t, "beside Count times Min", a, wanted(a))
					a.Sum = product(greatest, count, plus)
					checks(t, "beside Count times Max", a, wanted(a))
				}
			}
		}
	}
}

// wanted is OK if a is right, and otherwise ErrArg.
func wanted(a api.Agg) api.Errno {
	if isAgg(a) {
		return 0
	}
	return 1
}

// P8.2: right aggregates of which some parts are changed a little or replaced, and wild ones, as the model judges them.
func TestCheckChanged(t *testing.T) {
	next := noise(2)
	all, replaced := aggs(), wild(3, 300)
	for range 60000 {
		a := all[next(len(all))]
		for range 1 + next(2) {
			a = changed(a, replaced[next(len(replaced))], next)
		}
		checks(t, "changed", a, wanted(a))
	}
	for _, a := range wild(4, 20000) {
		checks(t, "wild", a, wanted(a))
	}
}

// changed is a with one of its parts a little greater or less, or as b has it, or with one moved from bucket to bucket.
func changed(a, b api.Agg, next func(below int) int) api.Agg {
	step := next(5) - 2
	i, k := next(9), next(9)
	switch next(12) {
	case 0:
		a.Count += step
	case 1:
		a.Count = b.Count
	case 2:
		a.Sum.Lo += uint64(step)
	case 3:
		a.Sum = b.Sum
	case 4:
		a.Min += int64(step)
	case 5:
		a.Max += int64(step)
	case 6:
		a.Min, a.Max = b.Min, b.Max
	case 7:
		a.Last = b.Last
	case 8:
		a.At = b.At
	case 9:
		a.Buckets[i] += step
	case 10:
		a.Buckets[i], a.Buckets[k] = a.Buckets[i]+step, a.Buckets[k]-step
	case 11:
		a.Buckets[i], a.Buckets[k] = a.Buckets[k], a.Buckets[i]
	}
	return a
}

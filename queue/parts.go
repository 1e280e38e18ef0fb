package queue

import "slices"

// limit is the first number that may be in no queue.
const limit = 1 << 20

// members are numbers in no order.
type members struct {
	in map[int]struct{}
}

// holds: is a number among them?
func (m *members) holds(n int) bool {
	_, found := m.in[n]
	return found
}

// enter takes a number in: may it be, and wasn't it ahead?
func (m *members) enter(n int) bool {
	if n < 0 || n >= limit || m.holds(n) {
		return false
	}
	if m.in == nil {
		m.in = map[int]struct{}{}
	}
	m.in[n] = struct{}{}
	return true
}

// leave lets a number go.
func (m *members) leave(n int) {
	delete(m.in, n)
}

// line is numbers in the order in which they came.
type line struct {
	numbers []int
}

// stand lets a number be the last one. What was taken from the front goes when the list grows, as only what is left is moved then.
func (l *line) stand(n int) {
	l.numbers = append(l.numbers, n)
}

// first takes the first number of a line that has one.
func (l *line) first() int {
	n := l.numbers[0]
	l.numbers = l.numbers[1:]
	return n
}

// length is how many stand in it.
func (l *line) length() int {
	return len(l.numbers)
}

// all are the numbers, in a list of their own.
func (l *line) all() []int {
	return slices.Clone(l.numbers)
}

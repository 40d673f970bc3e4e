package lender_test

import "fmt"

// What the tests hold the calls against is reckoned here in other ways than the program's: the sum by powers from the end, the log from its entries upwards instead of by cuts.

func sumOf(s string) int {
	sum, power := 0, 1
	for i := len(s) - 1; i >= 0; i-- {
		sum = (sum + (int(s[i])+1)*power) % 4093
		power = power * 263 % 4093
	}
	return sum
}

func leafOf(entry string) int {
	return sumOf("E" + entry)
}

func nodeTextOf(a, b int) string {
	return "N" + string([]byte{byte(a & 255), byte(a >> 8), byte(b & 255), byte(b >> 8)})
}

func nodeOf(a, b int) int {
	return sumOf(nodeTextOf(a, b))
}

// rowsOf joins neighbours row by row until one sum is left; an odd last one goes up as it is.
func rowsOf(l []string) [][]int {
	var row []int
	for _, s := range l {
		row = append(row, leafOf(s))
	}
	rows := [][]int{row}
	for len(row) > 1 {
		var up []int
		for j := 0; j < len(row); j += 2 {
			if j+1 < len(row) {
				up = append(up, nodeOf(row[j], row[j+1]))
			} else {
				up = append(up, row[j])
			}
		}
		row = up
		rows = append(rows, row)
	}
	return rows
}

func rootOf(l []string) int {
	if len(l) == 0 {
		return 0
	}
	rows := rowsOf(l)
	return rows[len(rows)-1][0]
}

func pathOf(l []string, i int) []int {
	path := []int{}
	for _, row := range rowsOf(l) {
		if beside := i ^ 1; beside < len(row) {
			path = append(path, row[beside])
		}
		i /= 2
	}
	return path
}

// textsOf gives the texts of a log.
func textsOf(l []string) []string {
	var texts []string
	for _, entry := range l {
		texts = append(texts, "E"+entry)
	}
	for _, row := range rowsOf(l) {
		for j := 1; j < len(row); j += 2 {
			texts = append(texts, nodeTextOf(row[j-1], row[j]))
		}
	}
	return texts
}

func leadsOf(n, i, s int, path []int) (int, bool) {
	s, _, ok := stepsOf(n, i, s, path)
	return s, ok
}

// stepsOf climbs from the entry at i, and gives the texts that are summed on the way as well: last is the place of the row's last sum.
func stepsOf(n, i, s int, path []int) (int, []string, bool) {
	var texts []string
	last := n - 1
	for _, p := range path {
		if p < 0 || p > 4092 {
			return 0, nil, false
		}
		i, last = upOf(i, last)
		if last == 0 {
			return 0, nil, false
		}
		text := nodeTextOf(s, p)
		if i%2 == 1 {
			text = nodeTextOf(p, s)
		}
		texts = append(texts, text)
		s, i, last = sumOf(text), i/2, last/2
	}
	_, last = upOf(i, last)
	return s, texts, last == 0
}

// furtherOf climbs from the last whole part of the first m entries, which is a sum of its own row: this sum, unless it is the old root itself, and then those beside the way up.
func furtherOf(l []string, m int) []int {
	path := []int{}
	if m == len(l) {
		return path
	}
	rows, at, row := rowsOf(l), m-1, 0
	for at%2 == 1 {
		at, row = at/2, row+1
	}
	if at > 0 {
		path = append(path, rows[row][at])
	}
	for _, sums := range rows[row:] {
		if beside := at ^ 1; beside < len(sums) {
			path = append(path, sums[beside])
		}
		at /= 2
	}
	return path
}

// joinsOf tells what a path joins, the flag being yes.
func joinsOf(m, n, old int, path []int) (int, int, bool) {
	for _, p := range append([]int{old}, path...) {
		if p < 0 || p > 4092 {
			return 0, 0, false
		}
	}
	return climbOf(m, n, old, path)
}

func climbOf(m, n, old int, path []int) (int, int, bool) {
	x, y, _, ok := joinStepsOf(m, n, old, path)
	return x, y, ok
}

// joinStepsOf climbs as furtherOf does, with the numbers of a path, whatever they are, and gives the texts that are summed on the way as well: at is the place of the old log's last sum in its row, last that of the whole log's.
func joinStepsOf(m, n, old int, path []int) (int, int, []string, bool) {
	if m == n {
		return old, old, nil, len(path) == 0
	}
	at, last := m-1, n-1
	for at%2 == 1 {
		at, last = at/2, last/2
	}
	if at == 0 {
		path = append([]int{old}, path...)
	}
	if len(path) == 0 {
		return 0, 0, nil, false
	}
	var texts []string
	x, y := path[0], path[0]
	for _, p := range path[1:] {
		at, last = upOf(at, last)
		if last == 0 {
			return 0, 0, nil, false
		}
		if at%2 == 1 {
			texts = append(texts, nodeTextOf(p, x), nodeTextOf(p, y))
			x, y = nodeOf(p, x), nodeOf(p, y)
		} else {
			texts = append(texts, nodeTextOf(y, p))
			y = nodeOf(y, p)
		}
		at, last = at/2, last/2
	}
	_, last = upOf(at, last)
	return x, y, texts, last == 0
}

// upOf goes up from a last sum that has none beside it, to the row where it has one or is alone.
func upOf(at, last int) (int, int) {
	for last > 0 && at == last && at%2 == 0 {
		at, last = at/2, last/2
	}
	return at, last
}

// entries gives a log of n entries of many lengths, the empty one and one of 40 bytes among them.
func entries(n int) []string {
	var l []string
	for i := 0; i < n; i++ {
		b := make([]byte, (i*7+3)%41)
		for j := range b {
			b[j] = byte(i*31 + j*17)
		}
		l = append(l, string(b))
	}
	return l
}

// named gives the log "entry 0", "entry 1", ...
func named(n int) []string {
	var l []string
	for i := 0; i < n; i++ {
		l = append(l, fmt.Sprint("entry ", i))
	}
	return l
}

// dice gives numbers that look thrown but are the same in every run.
type dice struct{ state uint64 }

func (d *dice) below(n int) int {
	d.state = d.state*6364136223846793005 + 1442695040888963407
	return int((d.state >> 33) % uint64(n))
}

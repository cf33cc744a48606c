package desk

// A need is what must lie on the desk.
type need int

const (
	neither need = iota
	network
	both
)

// A command is what a line does: the words behind its name, what it needs, and what is done then.
type command struct {
	form  form
	needs need
	does  func(x *Desk, a args) string
}

// commands are all there are, by their names.
func commands() map[string]command {
	return map[string]command{
		"net":       {oneLiteral, neither, (*Desk).readNet},
		"prop":      {oneLiteral, network, (*Desk).readProp},
		"netof":     {oneHex, neither, (*Desk).decodeNet},
		"propof":    {oneHex, network, (*Desk).decodeProp},
		"netbytes":  {bare, network, (*Desk).netBytes},
		"propbytes": {bare, both, (*Desk).propBytes},
		"forget":    {bare, neither, (*Desk).forget},
		"shape":     {wholes(1), network, (*Desk).shape},
		"verify":    {wholes(1), both, (*Desk).verify},
		"radius":    {wholes(1), both, (*Desk).radius},
		"bounds":    {wholes(1), both, (*Desk).bounds},
		"columns":   {wholes(1), both, (*Desk).columns},
		"margin":    {bare, both, (*Desk).margin},
		"trial":     {anyWholes, both, (*Desk).trial},
		"walk":      {anyNumbers, network, (*Desk).walk},
		"exact":     {anyNumbers, network, (*Desk).exact},
		"shadow":    {wholes(3), both, (*Desk).shadow},
		"account":   {bare, both, (*Desk).account},
		"check":     {oneHex, both, (*Desk).check},
	}
}
